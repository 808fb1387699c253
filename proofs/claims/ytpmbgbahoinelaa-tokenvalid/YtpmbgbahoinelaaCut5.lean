/-
  TokenValid's walk.
-/
import Derived.Test.YtpmbgbahoinelaaAwake5
namespace Go.Proofs.Ytpmbgbahoinelaa
open Go.RowKit

set_option maxRecDepth 1000000 in
set_option maxHeartbeats 4000000 in
theorem tokenValid_walk (a b : ByteArray) (cut : Int) (w : World) :
    Calls Try.prog 8 #[.string a, .string b, .int .i64 cut] w fun e w' => e = .returned (.bool true) ∧ Below w.heap.size w w' := by
  go_enter Try.func8, Try.ntmps8
  go_wp2_with fail
  refine (awake5_any _).mono ?_
  rintro e w1 ⟨rfl, B1⟩
  by_cases h5 : (300 : Int) < (a.size : Int)
  · go_wp2
    go_ret
    exact ⟨rfl, B1⟩
  by_cases h6 : (300 : Int) < (b.size : Int)
  · go_wp2
    go_ret
    exact ⟨rfl, B1⟩
  obtain ⟨r, hr⟩ : ∃ r, T.valid (T.bs a) = r := ⟨_, rfl⟩
  have HR := hide hr
  clear hr
  go_wp2_with fail
  refine (valid_any a _ r (unhide HR)).mono ?_
  rintro e w2 ⟨rfl, hb2⟩
  have B2 := below_trans' B1 hb2
  clear hb2 B1
  cases r with
  | false =>
    go_wp2
    go_ret
    exact ⟨rfl, B2⟩
  | true =>
    obtain ⟨q, hq⟩ : ∃ q, T.valid (T.bs b) = q := ⟨_, rfl⟩
    obtain ⟨A, hA⟩ : ∃ A, a ++ b = A := ⟨_, rfl⟩
    have hv := valid_two (b := b) (unhide HR)
    rw [hA, hq] at hv
    have hadd : ∀ w : World, (Op.stringOp .add a b).run Try.prog w = .ok (.string A) w := fun w => by rw [run_string_add_sum w a b (by omega), hA]
    have hqq : (q != q) = false := by simp
    have HQ := hide hq
    have HV := hide hv
    clear hq hv hA
    go_wp2_with fail
    refine (valid_any A _ q (unhide HV)).mono ?_
    rintro e w3 ⟨rfl, hb3⟩
    have B3 := below_trans' B2 hb3
    clear hb3 B2
    go_wp2_with fail
    refine (valid_any b _ q (unhide HQ)).mono ?_
    rintro e w4 ⟨rfl, hb4⟩
    have B4 := below_trans' B3 hb4
    clear hb4 B3 hadd HQ HV
    by_cases h7 : cut < 0
    · go_wp2
      go_ret
      exact ⟨rfl, B4⟩
    by_cases h8 : (a.size : Int) ≤ cut
    · go_wp2
      go_ret
      exact ⟨rfl, B4⟩
    obtain ⟨k, rfl⟩ := Int.eq_ofNat_of_zero_le (show 0 ≤ cut by omega)
    have hk : k < a.size := by omega
    obtain ⟨c, hc⟩ : ∃ c, T.byt (T.bs a) k = c := ⟨_, rfl⟩
    have hix : ∀ w : World, (Instr.index 9 (.string a) (.int .i64 (k : Int))).run Try.prog w = .ok (.int .u8 (c : Int)) w := fun w => Try.index_string a k hk w _ rfl _ hc
    obtain ⟨t, ht⟩ : ∃ t, (decide (128 ≤ T.byt (T.bs a) k) && decide (T.byt (T.bs a) k ≤ 191)) = t := ⟨_, rfl⟩
    obtain ⟨hv1, hv2⟩ := valid_cut (unhide HR) hk t ht
    rw [hc] at ht
    have H1 := hide hv1
    have H2 := hide hv2
    clear hv1 hv2 hc h7 h8
    have htt : ((!t) == (!t)) = true := by simp
    by_cases h9 : (128 : Int) ≤ (c : Int)
    · by_cases h10 : (c : Int) ≤ 191
      · have : t = true := by rw [← ht]; simp; omega
        subst this
        clear ht
        go_wp2_with fail
        refine (valid_any _ _ _ (unhide H1)).mono ?_
        rintro e w5 ⟨rfl, hb5⟩
        have B5 := below_trans' B4 hb5
        clear hb5 B4
        go_wp2_with fail
        refine (valid_any _ _ _ (unhide H2)).mono ?_
        rintro e w6 ⟨rfl, hb6⟩
        have B6 := below_trans' B5 hb6
        clear hb6 B5
        go_wp2
        go_ret
        exact ⟨by first | rfl | (simp; omega), B6⟩
      · have : t = false := by rw [← ht]; simp; omega
        subst this
        clear ht
        go_wp2_with fail
        refine (valid_any _ _ _ (unhide H1)).mono ?_
        rintro e w5 ⟨rfl, hb5⟩
        have B5 := below_trans' B4 hb5
        clear hb5 B4
        go_wp2_with fail
        refine (valid_any _ _ _ (unhide H2)).mono ?_
        rintro e w6 ⟨rfl, hb6⟩
        have B6 := below_trans' B5 hb6
        clear hb6 B5
        go_wp2
        go_ret
        exact ⟨by first | rfl | (simp; omega), B6⟩
    · have : t = false := by rw [← ht]; simp; omega
      subst this
      clear ht
      go_wp2_with fail
      refine (valid_any _ _ _ (unhide H1)).mono ?_
      rintro e w5 ⟨rfl, hb5⟩
      have B5 := below_trans' B4 hb5
      clear hb5 B4
      go_wp2_with fail
      refine (valid_any _ _ _ (unhide H2)).mono ?_
      rintro e w6 ⟨rfl, hb6⟩
      have B6 := below_trans' B5 hb6
      clear hb6 B5
      go_wp2
      go_ret
      exact ⟨by first | rfl | (simp; omega), B6⟩
end Go.Proofs.Ytpmbgbahoinelaa
