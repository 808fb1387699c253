/-
  The contracts of the program's test for rising lists, and of Rise.
-/
import Derived.Test.YtonhehhmnobciaaPut
import Derived.Test.YtonhehhmnobciaaPlainList
namespace Go.Proofs.Ytonhehhmnobciaa
set_option maxRecDepth 100000
open Go.RowKit

theorem dropAt {l : List Int} {j : Nat} {c : Int} (h : j < l.length) (hc : c = l[j]) : l.drop j = c :: l.drop (j + 1) := by rw [List.drop_eq_getElem_cons h, hc]

set_option maxHeartbeats 1000000 in
theorem rising_any (v : Value) (l : List Int) (w : World) (h : Sl .i64 w v l) :
    Calls Try.prog 137 #[v] w fun e w' => e = .returned (.bool (V.rises l)) ∧ w' = w := by
  obtain ⟨a, cap, rfl, hl, hm, hna, ho⟩ := h.open
  clear h
  by_cases hlen : 2000 < l.length
  · have hr : V.rises l = false := by
      have : ¬ l.length ≤ 2000 := by omega
      simp [V.rises, this]
    have HR : Hid (V.rises l = false) := hr
    clear hr
    go_enter Try.func137, Try.ntmps137
    go_wp2
    go_ret
    exact ⟨by rw [HR.out]; rfl, rfl⟩
  · have hr : V.rises l = V.risingB 0 l := by
      have : l.length ≤ 2000 := by omega
      simp [V.rises, this]
    have HR : Hid (V.rises l = V.risingB 0 l) := hr
    clear hr
    go_enter Try.func137, Try.ntmps137
    go_wp2
    go_loop [3, 11] (fun mv iv => ∃ (k : Nat) (m : Int), k ≤ l.length ∧ iv = .int .i64 k ∧ mv = .int .i64 m ∧ 0 ≤ m ∧ m ≤ 34359738368 ∧ V.risingB 0 l = V.risingB m (l.drop k)) (fun _ iv => l.length - (intOf iv).toNat)
    case atStart => exact ⟨0, 0, Nat.zero_le _, rfl, rfl, by omega, by omega, rfl⟩
    case round =>
      obtain ⟨k, m, hk, rfl, rfl, hm0, hm1, heq⟩ := hrel
      have HE : Hid (V.risingB 0 l = V.risingB m (l.drop k)) := heq
      clear heq
      by_cases hlt : k < l.length
      · obtain ⟨b, off, rfl, hbl, hc⟩ := ho (by omega)
        have c1 := hc k hlt
        obtain ⟨x, hxe⟩ : ∃ x, x = l[k] := ⟨_, rfl⟩
        have c2 : w.cell? ⟨b, off + k, none⟩ = some (.int .i64 x) := by rw [c1, hxe]; simp [hlt]
        have HX : Hid (x = l[k]) := hxe
        clear hxe c1 hc ho
        by_cases h1 : x < m
        · go_wp2
          go_ret
          exact ⟨by rw [HR.out, HE.out, dropAt hlt HX.out, V.rising_not (by omega)]; rfl, rfl⟩
        · by_cases h2 : 34359738367 < x
          · go_wp2
            go_ret
            exact ⟨by rw [HR.out, HE.out, dropAt hlt HX.out, V.rising_not (by omega)]; rfl, rfl⟩
          · go_wp2
            go_round
            case rel => exact ⟨k + 1, x + 1, by omega, by go_num, rfl, by omega, by omega, by rw [HE.out, dropAt hlt HX.out, V.rising_cons (by omega)]⟩
            case measure => simp [intOf]; omega
      · go_wp2
        go_ret
        exact ⟨by rw [HR.out, HE.out, List.drop_eq_nil_of_le (by omega)]; rfl, rfl⟩

set_option maxHeartbeats 1000000 in
theorem rise_any (v : Value) (l : List Int) (w : World) (h : Sl .i64 w v l) :
    Calls Try.prog 118 #[v] w fun e w' => ∃ v', e = .returned (.tuple #[v', .int .i64 (V.riseE l)]) ∧ w'.ownsRow w.heap.size 5 1 v' (V.riseA l).length ((V.riseA l).map (Value.int .u8)) ∧ Below w.heap.size w w' := by
  have hs := h
  obtain ⟨a, cap, rfl, hl, hm, hna, ho⟩ := h.open
  clear h
  obtain ⟨i0, hi, hz0, hz1, hz2⟩ := info_parts Try.info3
  by_cases hr : V.rises l = true
  · have hA : V.riseA l = V.enc (V.nums l) := if_pos hr
    have hE : V.riseE l = 0 := if_pos hr
    rw [hA, hE]
    clear hA hE
    have HR : Hid (V.rises l = true) := hr
    have hlen : l.length ≤ 2000 := by simp [V.rises] at hr; omega
    have hrb : V.risingB 0 l = true := by simp [V.rises] at hr; exact hr.2
    have HB : Hid (V.risingB 0 l = true) := hrb
    clear hr hrb
    go_enter Try.func118, Try.ntmps118
    go_wp2_with fail
    refine (rising_any _ l _ hs).mono ?_
    rintro e w1 ⟨rfl, rfl⟩
    rw [HR.out]
    clear hs
    go_wp2
    go_loopw [4, 5, 16] (fun nv mv iv wr => ∃ (k : Nat) (m : Int) (pre : List Int), k ≤ l.length ∧ iv = .int .i64 k ∧ mv = .int .i64 m ∧ 0 ≤ m ∧ m ≤ 34359738368 ∧ V.risingB m (l.drop k) = true ∧
      pre ++ V.deltas m (l.drop k) = V.nums l ∧ pre.length = k + 1 ∧ wr.ownsRow w1.heap.size 3 1 nv pre.length (pre.map (Value.int .i64)) ∧ Below w1.heap.size w1 wr) (fun _ _ iv _ => l.length - (intOf iv).toNat)
    case atStart => exact ⟨0, 0, [(l.length : Int)], Nat.zero_le _, rfl, rfl, by omega, by omega, HB.out, rfl, rfl, World.ownsRow_lit _ _ 1 (Nat.le_refl _) (by unfold maxLen; omega) rfl, below_alloc _ _⟩
    case round =>
      obtain ⟨k, m, pre, hk, rfl, rfl, hm0, hm1, hris, heq, hpl, hown, hbel⟩ := hrel
      have HE : Hid (pre ++ V.deltas m (l.drop k) = V.nums l) := heq
      have HS : Hid (V.risingB m (l.drop k) = true) := hris
      have HP : Hid (pre.length = k + 1) := hpl
      have hpl2 : pre.length ≤ 3000 := by omega
      have hBs := hbel.size
      clear heq hris hpl
      by_cases hlt : k < l.length
      · obtain ⟨b, off, rfl, hbl, hc⟩ := ho (by omega)
        have c1 := hc k hlt
        obtain ⟨x, hxe⟩ : ∃ x, x = l[k] := ⟨_, rfl⟩
        have c2 : wr.cell? ⟨b, off + k, none⟩ = some (.int .i64 x) := by rw [hbel.cell hbl, c1, hxe]; simp [hlt]
        have hx := HS.out
        rw [dropAt hlt hxe] at hx
        obtain ⟨hx1, hx2⟩ := V.rising_head hx
        have HX : Hid (x = l[k]) := hxe
        have HN : Hid (V.risingB (x + 1) (l.drop (k + 1)) = true) := hx2
        clear hxe c1 hc ho hx hx2
        go_wp2_with (at_builtin; refine append_one rfl _ _ 28 rfl Try.underlying28 hi hz0 hz1 hz2 rfl rfl rfl hown hbel hBs (by omega) (by decide) ?_; intro v1 w2 hown2 hbel2)
        go_roundw
        case rel =>
          refine ⟨k + 1, x + 1, pre ++ [x - m], by omega, by go_num, rfl, by omega, by omega, HN.out, ?_, by simp [HP.out], hown2, hbel2⟩
          have := HE.out
          rw [dropAt hlt HX.out, V.deltas] at this
          simpa using this
        case measure => simp [intOf]; omega
      · have hpe : pre = V.nums l := by
          have := HE.out
          rw [List.drop_eq_nil_of_le (by omega), V.deltas, List.append_nil] at this
          exact this
        subst hpe
        go_wp2_with fail
        refine (write_any _ (V.nums l) _ (Sl.owned hown) (V.nums_bd HR.out) (by omega)).mono ?_
        rintro e w2 ⟨v2, rfl, hown2, hbel2⟩
        go_wp2
        go_ret2
        exact ⟨_, rfl, own_mono hown2 hBs, below_trans' hbel hbel2⟩
  · have hr : V.rises l = false := by simpa using hr
    have hA : V.riseA l = [] := if_neg (by simp [hr])
    have hE : V.riseE l = 1 := if_neg (by simp [hr])
    rw [hA, hE]
    have HR : Hid (V.rises l = false) := hr
    clear hA hE hr
    go_enter Try.func118, Try.ntmps118
    go_wp2_with fail
    refine (rising_any _ l _ hs).mono ?_
    rintro e w1 ⟨rfl, rfl⟩
    rw [HR.out]
    go_wp2
    go_ret2
    exact ⟨_, rfl, World.ownsRow_nil _ _ _ _, Below.refl _ _⟩
end Go.Proofs.Ytonhehhmnobciaa
