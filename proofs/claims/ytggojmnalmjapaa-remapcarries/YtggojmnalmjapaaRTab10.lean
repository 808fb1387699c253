/-
  The contracts of the document's own Table and Then.
-/
import Derived.Test.YtggojmnalmjapaaTable10
namespace Go.Proofs.Ytggojmnalmjapaa
set_option maxRecDepth 100000
open Go.RowKit Go.Deep

set_option maxHeartbeats 1000000 in
theorem rtable_any (v : Value) (l : List Bool) (n : Int) (w : World) (h : Gl .bool w v l) : Calls Try.prog 13 #[v, .int .i64 n] w (MadeN w (R.table l n)) := by
  obtain ⟨i0, hi, hz0, hz1, hz2⟩ := info_parts Try.infoI10
  obtain ⟨a, cap, rfl, hl, hmx, hna, ho⟩ := h.open
  clear h
  by_cases hq : 0 ≤ n ∧ n ≤ 1100 ∧ l.length ≤ 64
  · have HR : Hid (R.table l n = R.tab n l) := by
      show _ = _
      unfold R.table
      rw [if_pos hq]
    have h0 : decide (n < 0) = false := by simpa using hq.1
    have h1 : decide (1100 < n) = false := by simpa using hq.2.1
    have h2 : decide ((64 : Int) < (l.length : Int)) = false := by simp; omega
    have hql := hq.2.2
    have hn0 := hq.1
    have hn1 := hq.2.1
    clear hq
    go_enter Try.func13, Try.ntmps13
    go_wp2
    go_loopw [5, 6, 7] (fun ov nv iv wr => ∃ (k m : Nat) (X : List Int), k ≤ l.length ∧ iv = .int .i64 k ∧ m ≤ k ∧ nv = .int .i64 (n + m) ∧ X.length = k ∧ Hid (m = R.cnt (l.take k)) ∧ Hid (X = R.tab n (l.take k)) ∧ wr.ownsRow w.heap.size 3 1 ov X.length (X.map (Value.int .i64)) ∧ Below w.heap.size w wr) (fun _ _ iv _ => l.length - (intOf iv).toNat)
    case atStart => exact ⟨0, 0, [], Nat.zero_le _, rfl, Nat.zero_le _, by simp, rfl, by (show _ = _; simp [R.cnt]), by (show _ = _; simp [R.tab]), World.ownsRow_nil _ _ _ _, Below.refl _ _⟩
    case round =>
      obtain ⟨k, m, X, hk, rfl, hmk, rfl, hX, HM, HX2, hown, hbel⟩ := hrel
      have hxl : X.length ≤ 64 := by omega
      have HX := hide hX
      have hBs := hbel.size
      clear hX
      by_cases hlt : k < l.length
      · obtain ⟨b, off, rfl, hb, hc⟩ := ho (by omega)
        obtain ⟨x, hx⟩ : ∃ x, l[k]? = some x := ⟨l[k], List.getElem?_eq_getElem hlt⟩
        have c1 : wr.cell? ⟨b, off + k, none⟩ = some (.bool x) := (hbel.cell (p := ⟨b, off + k, none⟩) hb).trans (hc k x hx)
        have hts := R.tab_step hx n
        have hcs := R.cnt_step hx
        rw [← unhide HX2, ← unhide HM] at hts
        rw [← unhide HM] at hcs
        have HTS := hide hts
        have HCS := hide hcs
        clear hc ho hx hts hcs
        cases x with
        | true =>
          go_wp2_with (at_builtin; refine append_oneG (f := Value.int .i64) (y := n + m) rfl _ _ 23 rfl Try.underlying23 hi hz0 hz1 hz2 rfl (fun _ => rfl) rfl rfl hown hbel hBs (by omega) (by decide) ?_; intro v1 w1 hown1 hbel1)
          go_roundw
          case rel => exact ⟨k + 1, m + 1, X ++ [n + m], by omega, by go_num, by omega, by go_num, by simp [unhide HX], by (show _ = _; rw [unhide HCS]; rfl), by (show _ = _; rw [unhide HTS]; rfl), hown1, hbel1⟩
          case measure => simp [intOf]; omega
        | false =>
          go_wp2_with (at_builtin; refine append_oneG (f := Value.int .i64) (y := -1) rfl _ _ 23 rfl Try.underlying23 hi hz0 hz1 hz2 rfl (fun _ => rfl) rfl rfl hown hbel hBs (by omega) (by decide) ?_; intro v1 w1 hown1 hbel1)
          go_roundw
          case rel => exact ⟨k + 1, m, X ++ [-1], by omega, by go_num, by omega, rfl, by simp [unhide HX], by (show _ = _; rw [unhide HCS]; rfl), by (show _ = _; rw [unhide HTS]; rfl), hown1, hbel1⟩
          case measure => simp [intOf]; omega
      · go_wp2
        go_ret
        have ek : k = l.length := by omega
        have hF := unhide HX2
        rw [List.take_of_length_le (by omega)] at hF
        rw [unhide HR, ← hF]
        exact ⟨_, rfl, hown, hbel⟩
  · have HR : Hid (R.table l n = []) := by
      show _ = _
      unfold R.table
      rw [if_neg hq]
    by_cases h0 : n < 0
    · go_enter Try.func13, Try.ntmps13
      go_wp2
      go_ret
      rw [unhide HR]
      exact ⟨_, rfl, World.ownsRow_nil _ _ _ _, Below.refl _ _⟩
    · by_cases h1 : 1100 < n
      · go_enter Try.func13, Try.ntmps13
        go_wp2
        go_ret
        rw [unhide HR]
        exact ⟨_, rfl, World.ownsRow_nil _ _ _ _, Below.refl _ _⟩
      · have h2 : (64 : Int) < (l.length : Int) := by omega
        clear hq
        go_enter Try.func13, Try.ntmps13
        go_wp2
        go_ret
        rw [unhide HR]
        exact ⟨_, rfl, World.ownsRow_nil _ _ _ _, Below.refl _ _⟩

set_option maxHeartbeats 1000000 in
theorem rthen_any (tv pv : Value) (t p : List Int) (w : World) (ht : Il w tv t) (hp : Il w pv p) (hlen : t.length ≤ 4294967296) : Calls Try.prog 15 #[tv, pv] w (MadeN w (R.thn t p)) := by
  obtain ⟨i0, hi, hz0, hz1, hz2⟩ := info_parts Try.infoI10
  obtain ⟨a, cap, rfl, hl, hmx, hna, ho⟩ := ht.open
  obtain ⟨a2, cap2, rfl, hl2, hmx2, hna2, ho2⟩ := hp.open
  clear ht hp
  go_enter Try.func15, Try.ntmps15
  go_wp2
  go_loopw [5, 6] (fun ov iv wr => ∃ (k : Nat) (X : List Int), k ≤ t.length ∧ iv = .int .i64 k ∧ X.length = k ∧ Hid (X = R.thn (t.take k) p) ∧ wr.ownsRow w.heap.size 3 1 ov X.length (X.map (Value.int .i64)) ∧ Below w.heap.size w wr) (fun _ iv _ => t.length - (intOf iv).toNat)
  case atStart => exact ⟨0, [], Nat.zero_le _, rfl, rfl, by (show _ = _; simp [R.thn]), World.ownsRow_nil _ _ _ _, Below.refl _ _⟩
  case round =>
    obtain ⟨k, X, hk, rfl, hX, HX2, hown, hbel⟩ := hrel
    have hxl : X.length ≤ 4294967296 := by omega
    have HX := hide hX
    have hBs := hbel.size
    clear hX
    by_cases hlt : k < t.length
    · obtain ⟨b, off, rfl, hb, hc⟩ := ho (by omega)
      obtain ⟨x, hx⟩ : ∃ x, t[k]? = some x := ⟨t[k], List.getElem?_eq_getElem hlt⟩
      have c1 : wr.cell? ⟨b, off + k, none⟩ = some (.int .i64 x) := (hbel.cell (p := ⟨b, off + k, none⟩) hb).trans (hc k x hx)
      have hts := R.thn_step (p := p) hx
      rw [← unhide HX2] at hts
      clear hc ho hx
      by_cases h0 : 0 ≤ x
      · by_cases h1 : x < (p.length : Int)
        · obtain ⟨q, rfl⟩ := Int.eq_ofNat_of_zero_le h0
          have hq : q < p.length := by omega
          obtain ⟨b2, off2, rfl, hb2, hc2⟩ := ho2 (by omega)
          have c2 : wr.cell? ⟨b2, off2 + q, none⟩ = some (.int .i64 p[q]) := (hbel.cell (p := ⟨b2, off2 + q, none⟩) hb2).trans (hc2 q p[q] (List.getElem?_eq_getElem hq))
          have e1 : R.thn1 p (q : Int) = p[q] := by
            unfold R.thn1
            rw [if_pos ⟨h0, h1⟩]
            simp [List.getD, hq]
          rw [e1] at hts
          obtain ⟨y, hy⟩ : ∃ y, p[q] = y := ⟨_, rfl⟩
          rw [hy] at hts c2
          have HTS := hide hts
          clear hts hy e1 hc2 ho2 h0 h1
          go_wp2_with (at_builtin; refine append_oneG (f := Value.int .i64) (y := y) rfl _ _ 23 rfl Try.underlying23 hi hz0 hz1 hz2 rfl (fun _ => rfl) rfl rfl hown hbel hBs (by omega) (by decide) ?_; intro v1 w1 hown1 hbel1)
          go_roundw
          case rel => exact ⟨k + 1, X ++ [y], by omega, by go_num, by simp [unhide HX], by (show _ = _; rw [unhide HTS]), hown1, hbel1⟩
          case measure => simp [intOf]; omega
        · have e1 : R.thn1 p x = -1 := by
            unfold R.thn1
            rw [if_neg (fun h => h1 h.2)]
          rw [e1] at hts
          have HTS := hide hts
          clear hts e1
          go_wp2_with (at_builtin; refine append_oneG (f := Value.int .i64) (y := -1) rfl _ _ 23 rfl Try.underlying23 hi hz0 hz1 hz2 rfl (fun _ => rfl) rfl rfl hown hbel hBs (by omega) (by decide) ?_; intro v1 w1 hown1 hbel1)
          go_roundw
          case rel => exact ⟨k + 1, X ++ [-1], by omega, by go_num, by simp [unhide HX], by (show _ = _; rw [unhide HTS]), hown1, hbel1⟩
          case measure => simp [intOf]; omega
      · have e1 : R.thn1 p x = -1 := by
          unfold R.thn1
          rw [if_neg (fun h => h0 h.1)]
        rw [e1] at hts
        have HTS := hide hts
        clear hts e1
        go_wp2_with (at_builtin; refine append_oneG (f := Value.int .i64) (y := -1) rfl _ _ 23 rfl Try.underlying23 hi hz0 hz1 hz2 rfl (fun _ => rfl) rfl rfl hown hbel hBs (by omega) (by decide) ?_; intro v1 w1 hown1 hbel1)
        go_roundw
        case rel => exact ⟨k + 1, X ++ [-1], by omega, by go_num, by simp [unhide HX], by (show _ = _; rw [unhide HTS]), hown1, hbel1⟩
        case measure => simp [intOf]; omega
    · go_wp2
      go_ret
      have ek : k = t.length := by omega
      have hF := unhide HX2
      rw [List.take_of_length_le (by omega)] at hF
      rw [← hF]
      exact ⟨_, rfl, hown, hbel⟩
end Go.Proofs.Ytggojmnalmjapaa
