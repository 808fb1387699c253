/-
  The contracts of the document's own Find, has and with: they answer as the plain functions do.
-/
import Derived.Test.YtjkaidlgooemoaaRSmall6
import Derived.Test.YtjkaidlgooemoaaWrite
namespace Go.Proofs.Ytjkaidlgooemoaa
open Go.RowKit

theorem Q.rise_lt : ∀ {l : List Int} {m z : Int} {i k : Nat} {x y : Int}, Q.riseB m z l = true → i < k → l[i]? = some x → l[k]? = some y → x < y
  | [], _, _, _, _, _, _, _, _, hx, _ => by simp at hx
  | u :: r, m, z, 0, k + 1, x, y, h, _, hx, hy => by
    obtain ⟨_, h2⟩ := Q.rise_head h
    simp at hx hy
    have := Q.rise_le h2 y (List.mem_of_getElem? hy)
    omega
  | u :: r, m, z, i + 1, k + 1, x, y, h, hik, hx, hy => by
    obtain ⟨_, h2⟩ := Q.rise_head h
    exact Q.rise_lt h2 (i := i) (k := k) (by omega) (by simpa using hx) (by simpa using hy)
  | u :: r, m, z, i, 0, x, y, h, hik, hx, hy => by omega

theorem Q.find_hit {L : List Pt} {d : Int} {k : Nat} {p : Pt} (h : Q.may L = true) (hp : L[k]? = some p) (hd : p.d = d) : Q.find L d = k := by
  have hr := Q.may_rise h
  have hk : (L.map Pt.d)[k]? = some d := by rw [List.getElem?_map, hp]; simp [hd]
  have hf : Q.first L d = k := Q.ahead_is (by have := (List.getElem?_eq_some_iff.1 hp).1; simp; omega) (fun i y hi hy => Q.rise_lt hr hi hy hk) (fun y hy => by rw [hk] at hy; simp at hy; omega)
  rw [Q.find_at h (by rw [Q.hasD_at (p := p) (by rw [hf]; exact hp)]; simpa using hd), hf]

theorem Q.find_miss {L : List Pt} {d : Int} (h : Q.may L = true) (hn : ∀ (i : Nat) (p : Pt), L[i]? = some p → p.d ≠ d) : Q.find L d = -1 := by
  refine Q.find_none ?_
  rw [← Bool.not_eq_true, Q.hasD_mem h]
  rintro ⟨p, hp, e⟩
  obtain ⟨i, hi⟩ := List.mem_iff_getElem?.1 hp
  exact hn i p hi e

set_option maxHeartbeats 1000000 in
theorem rfind_any (v : Value) (L : List Pt) (d : Int) (w : World) (h : Pl w v L) :
    Calls Try.prog 18 #[v, .int .i64 d] w fun e w' => e = .returned (.int .i64 (Q.find L d)) ∧ Below w.heap.size w w' := by
  have H := h
  obtain ⟨a, cap, rfl, hl, hm, hna, -⟩ := h.open
  clear h
  obtain ⟨mb, hmb⟩ : ∃ mb, Q.may L = mb := ⟨_, rfl⟩
  have HM := hide hmb
  clear hmb
  go_enter Try.func18, Try.ntmps18
  go_wp2_with fail
  refine (rmay_any _ _ _ H).mono ?_
  rintro e w1 ⟨rfl, B1⟩
  rw [unhide HM]
  have H1 := H.below B1
  go_wp2
  go_loop [6] (fun iv => ∃ k : Nat, k ≤ L.length ∧ iv = .int .i64 k ∧ ∀ i p, i < k → L[i]? = some p → p.d ≠ d) (fun iv => L.length - (intOf iv).toNat)
  case atStart => exact ⟨0, Nat.zero_le _, rfl, fun i y hi _ => by omega⟩
  case round =>
    obtain ⟨k, hk, rfl, hall⟩ := hrel
    have HA := hide hall
    clear hall
    by_cases hlt : k < L.length
    · cases mb with
      | false =>
        go_wp2
        go_ret
        exact ⟨by rw [Q.find_not (unhide HM)]; rfl, B1⟩
      | true =>
        obtain ⟨a', cap', hv', -, -, -, ho⟩ := H1.open
        simp only [Value.slice.injEq, true_and] at hv'
        obtain ⟨rfl, rfl⟩ := hv'
        obtain ⟨b, off, rfl, hbl, hc⟩ := ho (by omega)
        obtain ⟨p, hp⟩ : ∃ p, L[k]? = some p := ⟨L[k], List.getElem?_eq_getElem hlt⟩
        obtain ⟨da, dc, c0, -, -⟩ := hc k p hp
        have HP := hide hp
        obtain ⟨x, hx⟩ : ∃ x, p.d = x := ⟨_, rfl⟩
        rw [hx] at c0
        have HX := hide hx
        clear ho hc hp hx H1
        by_cases hxd : x = d
        · have hbx : (x == d) = true := by simpa using hxd
          have HXD := hide hxd
          clear hxd
          go_wp2
          go_ret
          exact ⟨by rw [Q.find_hit (unhide HM) (unhide HP) (by rw [unhide HX, unhide HXD])]; rfl, B1⟩
        · have hbx : (x == d) = false := by simpa using hxd
          go_wp2
          go_round
          case rel =>
            refine ⟨k + 1, by omega, by go_num, fun i y hi hy => ?_⟩
            by_cases e : i = k
            · subst e
              rw [unhide HP] at hy
              simp at hy
              rw [← hy, unhide HX]
              exact hxd
            · exact unhide HA i y (by omega) hy
          case measure => simp [intOf]; omega
    · have hke : k = L.length := by omega
      have HKE := hide hke
      clear hke
      go_wp2
      go_ret
      refine ⟨?_, B1⟩
      cases mb with
      | false => rw [Q.find_not (unhide HM)]; rfl
      | true =>
        rw [Q.find_miss (unhide HM) (fun i p hp => unhide HA i p (by have := (List.getElem?_eq_some_iff.1 hp).1; rw [unhide HKE]; omega) hp)]
        rfl

set_option maxHeartbeats 1000000 in
theorem has_any (v : Value) (l : List Int) (x : Int) (w : World) (h : Sl .i64 w v l) :
    Calls Try.prog 32 #[v, .int .i64 x] w fun e w' => e = .returned (.bool (decide (x ∈ l))) ∧ w' = w := by
  obtain ⟨a, cap, rfl, hl, hm, hna, ho⟩ := h.open
  clear h
  go_enter Try.func32, Try.ntmps32
  go_wp2
  go_loop [5] (fun iv => ∃ k : Nat, k ≤ l.length ∧ iv = .int .i64 k ∧ ∀ i y, i < k → l[i]? = some y → y ≠ x) (fun iv => l.length - (intOf iv).toNat)
  case atStart => exact ⟨0, Nat.zero_le _, rfl, fun i y hi _ => by omega⟩
  case round =>
    obtain ⟨k, hk, rfl, hall⟩ := hrel
    have HA := hide hall
    clear hall
    by_cases hlt : k < l.length
    · obtain ⟨b, off, rfl, hb, hc⟩ := ho (by omega)
      have c1 := hc k hlt
      obtain ⟨y, hy⟩ : ∃ y, l[k]? = some y := ⟨l[k], List.getElem?_eq_getElem hlt⟩
      have c2 : w.cell? ⟨b, off + k, none⟩ = some (.int .i64 y) := by rw [c1]; simp [List.getD, hy]
      have HY := hide hy
      clear ho hc hy c1
      by_cases hyx : y = x
      · have hbx : (y == x) = true := by simpa using hyx
        have HYX := hide hyx
        clear hyx
        go_wp2
        go_ret
        refine ⟨?_, rfl⟩
        rw [show decide (x ∈ l) = true by rw [decide_eq_true_iff, ← unhide HYX]; exact List.mem_of_getElem? (unhide HY)]
        rfl
      · have hbx : (y == x) = false := by simpa using hyx
        go_wp2
        go_round
        case rel =>
          refine ⟨k + 1, by omega, by go_num, fun i u hi hu => ?_⟩
          by_cases e : i = k
          · subst e
            rw [unhide HY] at hu
            simp at hu
            rw [← hu]
            exact hyx
          · exact unhide HA i u (by omega) hu
        case measure => simp [intOf]; omega
    · have hke : k = l.length := by omega
      have HKE := hide hke
      clear hke
      go_wp2
      go_ret
      refine ⟨?_, rfl⟩
      rw [show decide (x ∈ l) = false by
        rw [decide_eq_false_iff_not]
        intro hx
        obtain ⟨i, hi⟩ := List.mem_iff_getElem?.1 hx
        exact unhide HA i x (by have := (List.getElem?_eq_some_iff.1 hi).1; rw [unhide HKE]; omega) hi rfl]
      rfl

set_option maxHeartbeats 1000000 in
theorem with_any (v : Value) (l : List Int) (x : Int) (w : World) (h : Sl .i64 w v l) (hll : l.length ≤ 1000000) :
    Calls Try.prog 33 #[v, .int .i64 x] w fun e w' => ∃ v', e = .returned v' ∧ w'.ownsRow w.heap.size 3 1 v' (Q.ins l x).length ((Q.ins l x).map (Value.int .i64)) ∧ Below w.heap.size w w' := by
  obtain ⟨i0, hi, hz0, hz1, hz2⟩ := info_parts Try.info3
  have H := h
  obtain ⟨a, cap, rfl, hl, hm, hna, -⟩ := h.open
  clear h
  go_enter Try.func33, Try.ntmps33
  go_wp2
  go_loopw [5, 6] (fun ov iv wr => ∃ (k : Nat) (pre : List Int), k ≤ l.length ∧ iv = .int .i64 k ∧ pre = l.take k ∧ (∀ i y, i < k → l[i]? = some y → y < x) ∧ wr.ownsRow w.heap.size 3 1 ov pre.length (pre.map (Value.int .i64)) ∧ Below w.heap.size w wr) (fun _ iv _ => l.length - (intOf iv).toNat)
  case atStart => exact ⟨0, [], Nat.zero_le _, rfl, rfl, fun i y hi _ => by omega, World.ownsRow_nil _ _ _ _, Below.refl _ _⟩
  case round =>
    obtain ⟨k, pre, hk, rfl, hpre, hall, hown, hbel⟩ := hrel
    have HA := hide hall
    have HP := hide hpre
    have hpl : pre.length ≤ 1000000 := by rw [hpre]; simp; omega
    have H1 := H.below hbel
    clear hall hpre
    by_cases hlt : k < l.length
    · obtain ⟨a', cap', hv', -, -, -, ho⟩ := H1.open
      simp only [Value.slice.injEq, true_and] at hv'
      obtain ⟨rfl, rfl⟩ := hv'
      obtain ⟨b, off, rfl, hb, hc⟩ := ho (by omega)
      have c1 := hc k hlt
      obtain ⟨y, hy⟩ : ∃ y, l[k]? = some y := ⟨l[k], List.getElem?_eq_getElem hlt⟩
      have c2 : wr.cell? ⟨b, off + k, none⟩ = some (.int .i64 y) := by rw [c1]; simp [List.getD, hy]
      have HY := hide hy
      clear ho hc hy c1
      by_cases hyx : y < x
      · go_wp2_with (at_builtin; refine append_one rfl _ _ 37 rfl Try.underlying37 hi hz0 hz1 hz2 rfl (pre := pre) rfl rfl hown hbel hbel.size (by omega) (by decide) ?_; intro v1 w1 O1 B1)
        go_roundw
        case rel =>
          refine ⟨k + 1, pre ++ [y], by omega, by go_num, ?_, fun i u hi hu => ?_, O1, B1⟩
          · rw [unhide HP]
            obtain ⟨hk', rfl⟩ := List.getElem?_eq_some_iff.1 (unhide HY)
            exact (List.take_succ_eq_append_getElem hk').symm
          · by_cases e : i = k
            · subst e
              rw [unhide HY] at hu
              simp at hu
              omega
            · exact unhide HA i u (by omega) hu
        case measure => simp [intOf]; omega
      · have hah : Q.ahead l x = k := Q.ahead_is hk (unhide HA) (fun u hu => by rw [unhide HY] at hu; simp at hu; omega)
        have S2 := H.cut k l.length hk (Nat.le_refl _)
        rw [drop_take_all] at S2
        have R2 := run_sl_from (some ⟨b, off, none⟩) l.length cap k hk
        obtain ⟨sv, hsv⟩ : ∃ sv, sv = sliced (some ⟨b, off, none⟩) k l.length cap 1 := ⟨_, rfl⟩
        rw [← hsv] at S2 R2
        have HAH := hide hah
        obtain ⟨rs, hrs⟩ : ∃ rs, rs = l.drop k := ⟨_, rfl⟩
        rw [← hrs] at S2
        have hrl : rs.length ≤ 1000000 := by rw [hrs]; simp; omega
        have HRS := hide hrs
        clear hsv hah hrs
        go_wp2_with (first
          | (at_builtin; refine append_one rfl (.tmp 28) (.tmp 30) 37 rfl Try.underlying37 hi hz0 hz1 hz2 rfl (pre := pre) rfl rfl hown hbel hbel.size (by omega) (by decide) ?_; intro v1 w1 O1 B1)
          | (at_builtin; refine append_all rfl (.tmp 32) (.tmp 35) 37 rfl Try.underlying37 hi hz0 hz1 hz2 rfl (pre := pre ++ [x]) (zs := rs) rfl rfl (S2.below B1) O1 B1 B1.size (by simp; omega) (by decide) ?_; intro v2 w2 O2 B2))
        go_ret
        refine ⟨_, rfl, ?_, B2⟩
        rw [Q.ins, unhide HAH, ← unhide HP, ← unhide HRS]
        simpa using O2
    · have hah : Q.ahead l x = k := Q.ahead_is hk (unhide HA) (fun u hu => by rw [List.getElem?_eq_none (by omega)] at hu; simp at hu)
      clear H1
      have S2 := H.cut k l.length hk (Nat.le_refl _)
      rw [drop_take_all] at S2
      have R2 := run_sl_from (a) l.length cap k hk
      obtain ⟨sv, hsv⟩ : ∃ sv, sv = sliced (a) k l.length cap 1 := ⟨_, rfl⟩
      rw [← hsv] at S2 R2
      have HAH := hide hah
      obtain ⟨rs, hrs⟩ : ∃ rs, rs = l.drop k := ⟨_, rfl⟩
      rw [← hrs] at S2
      have hrl : rs.length ≤ 1000000 := by rw [hrs]; simp; omega
      have HRS := hide hrs
      clear hsv hah hrs
      go_wp2_with (first
        | (at_builtin; refine append_one rfl (.tmp 28) (.tmp 30) 37 rfl Try.underlying37 hi hz0 hz1 hz2 rfl (pre := pre) rfl rfl hown hbel hbel.size (by omega) (by decide) ?_; intro v1 w1 O1 B1)
        | (at_builtin; refine append_all rfl (.tmp 32) (.tmp 35) 37 rfl Try.underlying37 hi hz0 hz1 hz2 rfl (pre := pre ++ [x]) (zs := rs) rfl rfl (S2.below B1) O1 B1 B1.size (by simp; omega) (by decide) ?_; intro v2 w2 O2 B2))
      go_ret
      refine ⟨_, rfl, ?_, B2⟩
      rw [Q.ins, unhide HAH, ← unhide HP, ← unhide HRS]
      simpa using O2
end Go.Proofs.Ytjkaidlgooemoaa
