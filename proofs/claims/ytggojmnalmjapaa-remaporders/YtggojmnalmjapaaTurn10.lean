/-
  The contracts of Turn, and of the document's own where and Turn.
-/
import Derived.Test.YtggojmnalmjapaaTable10
import Derived.Test.YtggojmnalmjapaaPlainT10
namespace Go.Proofs.Ytggojmnalmjapaa
set_option maxRecDepth 100000
open Go.RowKit Go.Deep

set_option maxHeartbeats 1000000 in
theorem turn_any (v : Value) (p : List Int) (w : World) (h : Il w v p) : Calls Try.prog 19 #[v] w (MadeN w (R.turn p)) := by
  obtain ⟨a, cap, rfl, hl, hmx, hna, ho⟩ := h.open
  clear h
  by_cases hlen : p.length ≤ 1100
  · have CE := eachU_any p.length (by omega) (by omega) (fun _ => -1) none (fun _ _ => True) w (fun g hg => by cases hg) trivial (fun _ _ _ _ _ => trivial)
      (fun i _ w1 _ _ => (cloU_any i w1).mono fun e w2 ⟨h1, h2⟩ => ⟨h1, trivial, by rw [h2]; exact grown10_refl _ _⟩)
    go_enter Try.func19, Try.ntmps19
    go_wp2_with fail
    refine CE.mono ?_
    rintro e w1 ⟨rfl, O1, -, G1⟩
    have B1 := grown10_none G1
    have O1' : w1.ownsRow w.heap.size 3 1 (.slice (some ⟨w.heap.size, 0, none⟩) p.length p.length) ((List.range p.length).map fun _ => (-1 : Int)).length (((List.range p.length).map fun _ => (-1 : Int)).map (Value.int .i64)) := by simpa using O1
    have HO1 := hide O1'
    clear CE G1 O1 O1'
    go_wp2
    go_loopw [14] (fun iv wr => ∃ (k : Nat) (X : List Int), k ≤ p.length ∧ iv = .int .i64 k ∧ Hid (X.length = p.length) ∧ Hid (R.St p k X) ∧
        wr.ownsRow w.heap.size 3 1 (.slice (some ⟨w.heap.size, 0, none⟩) p.length p.length) X.length (X.map (Value.int .i64)) ∧ Below w.heap.size w wr) (fun iv _ => p.length - (intOf iv).toNat)
    case atStart => exact ⟨0, _, Nat.zero_le _, rfl, hide (by simp), hide (R.St.start p), unhide HO1, B1⟩
    case round =>
      obtain ⟨k, X, hk, rfl, HX, HS, hown, hbel⟩ := hrel
      by_cases hlt : k < p.length
      · obtain ⟨b, off, rfl, hb, hc⟩ := ho (by omega)
        obtain ⟨x, hx⟩ : ∃ x, p[k]? = some x := ⟨p[k], List.getElem?_eq_getElem hlt⟩
        have c1 : wr.cell? ⟨b, off + k, none⟩ = some (.int .i64 x) := (hbel.cell (p := ⟨b, off + k, none⟩) hb).trans (hc k x hx)
        have HXX := hide hx
        clear hc ho hx
        cases hr : R.inn x p.length with
        | false =>
          have HR : Hid (R.turn p = []) := by
            show _ = _
            exact R.turn_bad fun hg => R.bad1 (unhide HXX) (by simpa [R.inn] using hr) hg.2
          have CW := within_any x p.length wr false hr
          clear hr
          go_wp2_with fail
          refine CW.mono ?_
          rintro e w2 ⟨rfl, rfl⟩
          go_wp2
          go_ret
          rw [unhide HR]
          exact ⟨_, rfl, World.ownsRow_nil _ _ _ _, hbel⟩
        | true =>
          have hxx : 0 ≤ x ∧ x < (p.length : Int) := by simpa [R.inn] using hr
          obtain ⟨q, rfl⟩ := Int.eq_ofNat_of_zero_le hxx.1
          have hq : q < p.length := by omega
          have hqX : q < X.length := by have := unhide HX; omega
          have CW := within_any (q : Int) p.length wr true hr
          obtain ⟨y, hy⟩ : ∃ y, X[q]? = some y := ⟨X[q], List.getElem?_eq_getElem hqX⟩
          have c2 := own_at hown (unhide HX).symm hy
          have fz := own_froz hown (unhide HX).symm q
          by_cases hy1 : y = -1
          · subst hy1
            have hS := hide (R.St.step (unhide HS) (unhide HXX) hy)
            have O9 := hide (own_put hown (unhide HX).symm q (k : Int))
            have B9 := hide (hbel.setCell (p := ⟨w.heap.size, q, none⟩) (Nat.le_refl _) (.int .i64 (k : Int)))
            clear hr hxx hy hqX
            go_wp2_with fail
            refine CW.mono ?_
            rintro e w2 ⟨rfl, rfl⟩
            clear CW
            go_wp2
            go_roundw
            case rel => exact ⟨k + 1, X.set q (k : Int), by omega, by go_num, hide (by rw [List.length_set]; exact unhide HX), hS, unhide O9, unhide B9⟩
            case measure => simp [intOf]; omega
          · have HR : Hid (R.turn p = []) := by
              show _ = _
              exact R.turn_bad fun hg => R.St.bad2 (unhide HS) (unhide HXX) hy hy1 hg.2
            have hy2 : (y != -1) = true := by simpa using hy1
            clear hr hxx hy hqX hy1
            go_wp2_with fail
            refine CW.mono ?_
            rintro e w2 ⟨rfl, rfl⟩
            clear CW
            go_wp2
            go_ret
            rw [unhide HR]
            exact ⟨_, rfl, World.ownsRow_nil _ _ _ _, hbel⟩
      · go_wp2
        go_ret
        obtain ⟨h1, h2⟩ := R.St.done (unhide HS) (by omega)
        rw [R.turn_good ⟨hlen, h1⟩, ← h2]
        exact ⟨_, rfl, hown, hbel⟩
  · have h0 : (1100 : Int) < (p.length : Int) := by omega
    rw [R.turn_bad (fun hg => hlen hg.1)]
    go_enter Try.func19, Try.ntmps19
    go_wp2
    go_ret
    exact ⟨_, rfl, World.ownsRow_nil _ _ _ _, Below.refl _ _⟩

set_option maxHeartbeats 1000000 in
theorem where_any (v : Value) (p : List Int) (n : Int) (w : World) (h : Il w v p) (hlen : p.length ≤ 1100) : Calls Try.prog 37 #[v, .int .i64 n] w fun e w' => e = .returned (.int .i64 (R.whr p n)) ∧ w' = w := by
  obtain ⟨a, cap, rfl, hl, hmx, hna, ho⟩ := h.open
  clear h
  go_enter Try.func37, Try.ntmps37
  go_wp2
  go_loop [5, 6] (fun av iv => ∃ (k : Nat) (m : Int), k ≤ p.length ∧ iv = .int .i64 k ∧ av = .int .i64 m ∧ Hid (R.wst p n k m)) (fun _ iv => p.length - (intOf iv).toNat)
  case atStart => exact ⟨0, -1, Nat.zero_le _, rfl, rfl, hide (R.wst_start p n)⟩
  case round =>
    obtain ⟨k, m, hk, rfl, rfl, HS⟩ := hrel
    by_cases hlt : k < p.length
    · obtain ⟨b, off, rfl, hb, hc⟩ := ho (by omega)
      obtain ⟨x, hx⟩ : ∃ x, p[k]? = some x := ⟨p[k], List.getElem?_eq_getElem hlt⟩
      have c1 := hc k x hx
      have HXX := hide hx
      clear hc ho hx
      by_cases hxn : x = n
      · subst hxn
        by_cases hm0 : 0 ≤ m
        · have HR : Hid (R.whr p x = -1) := hide (R.wst_twice (unhide HS) (unhide HXX) hm0)
          go_wp2
          go_ret
          exact ⟨by rw [unhide HR]; rfl, rfl⟩
        · have hS := hide (R.wst_hit (unhide HS) (unhide HXX) (by omega))
          go_wp2
          go_round
          case rel => exact ⟨k + 1, k, by omega, by go_num, rfl, hS⟩
          case measure => simp [intOf]; omega
      · have hS := hide (R.wst_skip (unhide HS) (unhide HXX) hxn)
        have hb1 : (x == n) = false := by simpa using hxn
        clear hxn
        go_wp2
        go_round
        case rel => exact ⟨k + 1, m, by omega, by go_num, rfl, hS⟩
        case measure => simp [intOf]; omega
    · have HR : Hid (R.whr p n = m) := hide (R.wst_done (unhide HS) (by omega))
      go_wp2
      go_ret
      exact ⟨by rw [unhide HR]; rfl, rfl⟩

set_option maxHeartbeats 1000000 in
theorem rturn_any (v : Value) (p : List Int) (w : World) (h : Il w v p) : Calls Try.prog 20 #[v] w (MadeN w (R.turn p)) := by
  obtain ⟨i0, hi, hz0, hz1, hz2⟩ := info_parts Try.infoI10
  by_cases hlen : p.length ≤ 1100
  · obtain ⟨a, cap, rfl, hl, hmx, hna, -⟩ := h.open
    go_enter Try.func20, Try.ntmps20
    go_wp2
    go_loopw [3, 4] (fun ov iv wr => ∃ (k : Nat) (X : List Int), k ≤ p.length ∧ iv = .int .i64 k ∧ X.length = k ∧ Hid (R.Dt p k X) ∧ wr.ownsRow w.heap.size 3 1 ov X.length (X.map (Value.int .i64)) ∧ Below w.heap.size w wr) (fun _ iv _ => p.length - (intOf iv).toNat)
    case atStart => exact ⟨0, [], Nat.zero_le _, rfl, rfl, hide ⟨rfl, fun i hi => by omega⟩, World.ownsRow_nil _ _ _ _, Below.refl _ _⟩
    case round =>
      obtain ⟨k, X, hk, rfl, hX, HS, hown, hbel⟩ := hrel
      have hxl : X.length ≤ 1100 := by omega
      have HX := hide hX
      have hBs := hbel.size
      clear hX
      by_cases hlt : k < p.length
      · have CW := where_any _ p (k : Int) wr (h.below hbel) hlen
        obtain ⟨m, hm⟩ : ∃ m, R.whr p (k : Int) = m := ⟨_, rfl⟩
        rw [hm] at CW
        by_cases hm0 : m < 0
        · have HR : Hid (R.turn p = []) := hide (R.turn_bad fun hg => R.whr_neg hlt (by rw [hm]; exact hm0) hg.2)
          clear hm
          go_wp2_with fail
          refine CW.mono ?_
          rintro e w2 ⟨rfl, rfl⟩
          go_wp2
          go_ret
          rw [unhide HR]
          exact ⟨_, rfl, World.ownsRow_nil _ _ _ _, hbel⟩
        · have hS := R.Dt.step (unhide HS) (by rw [hm]; omega)
          rw [hm] at hS
          have HS2 := hide hS
          clear hm hS
          go_wp2_with fail
          refine CW.mono ?_
          rintro e w2 ⟨rfl, rfl⟩
          clear CW
          go_wp2_with (at_builtin; refine append_oneG (f := Value.int .i64) (y := m) rfl _ _ 23 rfl Try.underlying23 hi hz0 hz1 hz2 rfl (fun _ => rfl) rfl rfl hown hbel hBs (by omega) (by decide) ?_; intro v1 w1 hown1 hbel1)
          go_roundw
          case rel => exact ⟨k + 1, X ++ [m], by omega, by go_num, by simp [unhide HX], HS2, hown1, hbel1⟩
          case measure => simp [intOf]; omega
      · go_wp2
        go_ret
        obtain rfl : k = p.length := by omega
        obtain ⟨h1, h2⟩ := R.Dt.done (unhide HS)
        rw [R.turn_good ⟨hlen, h1⟩, ← h2]
        exact ⟨_, rfl, hown, hbel⟩
  · obtain ⟨a, cap, rfl, hl, hmx, hna, -⟩ := h.open
    have h0 : (1100 : Int) < (p.length : Int) := by omega
    rw [R.turn_bad (fun hg => hlen hg.1)]
    clear h
    go_enter Try.func20, Try.ntmps20
    go_wp2
    go_ret
    exact ⟨_, rfl, World.ownsRow_nil _ _ _ _, Below.refl _ _⟩
end Go.Proofs.Ytggojmnalmjapaa
