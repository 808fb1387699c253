/-
  The contract of Get: what it answers of whatever bytes, from whatever place on.
-/
import Derived.Test.YtonhehhmnobciaaPut
import Derived.Test.YtonhehhmnobciaaBits
namespace Go.Proofs.Ytonhehhmnobciaa
set_option maxRecDepth 100000
open Go.RowKit

theorem get_of {l : List Int} {p : Nat} (hp : p ≤ l.length) : V.get l p = match V.getH 5 (l.drop p) with | none => (0, 0, 5) | some (n, k) => (n, (p : Int) + k, 0) := by
  unfold V.get
  rw [if_neg (by omega)]
  rfl
theorem get_none {l : List Int} {p : Nat} (hp : p ≤ l.length) (h : V.getH 5 (l.drop p) = none) : V.get l p = (0, 0, 5) := by rw [get_of hp, h]
theorem get_some {l : List Int} {p : Nat} {n : Int} {k : Nat} (hp : p ≤ l.length) (h : V.getH 5 (l.drop p) = some (n, k)) : V.get l p = (n, (p : Int) + k, 0) := by rw [get_of hp, h]
theorem get_arg {l : List Int} {x : Int} (h : x < 0 ∨ (l.length : Int) < x) : V.get l x = (0, 0, 1) := by unfold V.get; rw [if_pos h]
theorem drop_at {l : List Int} {j : Nat} {c : Int} (h : j < l.length) (hc : c = l[j]) : l.drop j = c :: l.drop (j + 1) := by rw [List.drop_eq_getElem_cons h, hc]
theorem ret3 {a b c a' b' c' : Int} (h : (a, b, c) = (a', b', c')) : Ending.returned (.tuple #[.int .i64 a', .int .i64 b', .int .i64 c']) = .returned (.tuple #[.int .i64 a, .int .i64 b, .int .i64 c]) := by
  simp only [Prod.mk.injEq] at h
  rw [h.1, h.2.1, h.2.2]

set_option maxHeartbeats 1000000 in
theorem get_in (v : Value) (l : List Int) (p : Nat) (w : World) (h : Sl .u8 w v l) (hb : V.Byt l) (hp : p ≤ l.length) :
    Calls Try.prog 84 #[v, .int .i64 (p : Int)] w fun e w' => e = .returned (.tuple #[.int .i64 (V.get l p).1, .int .i64 (V.get l p).2.1, .int .i64 (V.get l p).2.2]) ∧ w' = w := by
  obtain ⟨a, cap, rfl, hl, hm, hna, ho⟩ := h.open
  clear h
  have hp0 : decide ((p : Int) < 0) = false := by simp
  go_enter Try.func84, Try.ntmps84
  go_wp2
  all_goals
    go_loop [7, 23] (fun nv iv => ∃ (i : Nat) (acc : Int), i ≤ 5 ∧ p + i ≤ l.length ∧ iv = .int .i64 i ∧ nv = .int .i64 acc ∧ 0 ≤ acc ∧ acc < V.pw i ∧ V.getH 5 (l.drop p) = V.comb i acc (V.getH (5 - i) (l.drop (p + i)))) (fun _ iv => 5 - (intOf iv).toNat)
    case atStart => exact ⟨0, 0, by omega, by omega, rfl, rfl, by omega, by simp [V.pw], by simp [V.comb_zero]⟩
    case round =>
      obtain ⟨i, acc, hi5, hil, rfl, rfl, h0, h1, heq⟩ := hrel
      have HE : Hid (V.getH 5 (l.drop p) = V.comb i acc (V.getH (5 - i) (l.drop (p + i)))) := heq
      have HA : Hid (acc < V.pw i) := h1
      clear heq h1
      by_cases hlt : i < 5 ∧ p + i < l.length
      · obtain ⟨hi, hlt⟩ := hlt
        obtain ⟨b, off, rfl, hbl, hc⟩ := ho (by omega)
        have c1 := hc (p + i) hlt
        obtain ⟨c, hce⟩ : ∃ c, c = l[p + i] := ⟨_, rfl⟩
        have c2 : w.cell? ⟨b, off + (p + i), none⟩ = some (.int .u8 c) := by rw [c1, hce]; simp [hlt]
        have hcb := hb c (by rw [hce]; exact List.getElem_mem _)
        have HC : Hid (c = l[p + i]) := hce
        clear hce c1 hc ho
        by_cases hge : 128 ≤ c
        · go_wp2
          go_round
          case rel =>
            have hpn := pw_next hi h0 HA.out (show (0 : Int) ≤ c % 128 by omega) (by omega)
            refine ⟨i + 1, acc + V.pw i * (c % 128), by omega, by omega, by go_num, by rw [or_pw hi h0 HA.out (by omega) (by omega)], hpn.1, hpn.2.1, ?_⟩
            rw [HE.out, drop_at hlt HC.out, V.comb_more hi hge hcb.2 (hb.drop _), show 5 - (i + 1) = 4 - i by omega, show p + (i + 1) = p + i + 1 by omega]
          case measure => simp [intOf]; omega
        · by_cases hz : c = 0
          · subst hz
            by_cases hi0 : 0 < i
            · go_wp2
              go_ret3
              exact ⟨ret3 (get_none hp (by rw [HE.out, drop_at hlt HC.out, V.comb_zero_byte hi hi0])), rfl⟩
            · go_wp2
              go_ret3
              exact ⟨ret3 (by rw [get_some hp (by rw [HE.out, drop_at hlt HC.out, V.comb_last hi (by omega) (by omega)])]; rw [or_zero h0 (by have := pw_next (d := 0) hi h0 HA.out (by omega) (by omega); omega)]; simp; omega), rfl⟩
          · have hz1 : (c == 0) = false := beq_eq_false_iff_ne.2 hz
            have hcm : c % 128 = c := by omega
            have HM : Hid (c % 128 = c) := hcm
            clear hcm
            go_wp2
            go_ret3
            exact ⟨ret3 (by rw [get_some hp (by rw [HE.out, drop_at hlt HC.out, V.comb_last hi (by omega) (by omega)])]; rw [or_pw hi h0 HA.out (by omega) (by omega), HM.out]; simp; omega), rfl⟩
      · go_wp2
        go_ret3
        refine ⟨ret3 (get_none hp ?_), rfl⟩
        rw [HE.out]
        by_cases h5 : i = 5
        · subst h5; rfl
        · rw [List.drop_eq_nil_of_le (by omega), V.comb_end]

set_option maxHeartbeats 400000 in
theorem get_any (v : Value) (l : List Int) (x : Int) (w : World) (h : Sl .u8 w v l) (hb : V.Byt l) :
    Calls Try.prog 84 #[v, .int .i64 x] w fun e w' => e = .returned (.tuple #[.int .i64 (V.get l x).1, .int .i64 (V.get l x).2.1, .int .i64 (V.get l x).2.2]) ∧ w' = w := by
  by_cases hx : x < 0
  · obtain ⟨a, cap, rfl, hl, hm, hna, ho⟩ := h.open
    clear h
    go_enter Try.func84, Try.ntmps84
    go_wp2
    go_ret3
    exact ⟨ret3 (get_arg (.inl hx)), rfl⟩
  · by_cases hx2 : (l.length : Int) < x
    · obtain ⟨a, cap, rfl, hl, hm, hna, ho⟩ := h.open
      clear h
      go_enter Try.func84, Try.ntmps84
      go_wp2
      go_ret3
      exact ⟨ret3 (get_arg (.inr hx2)), rfl⟩
    · obtain ⟨p, rfl⟩ := Int.eq_ofNat_of_zero_le (show 0 ≤ x by omega)
      exact get_in v l p w h hb (by omega)
end Go.Proofs.Ytonhehhmnobciaa
