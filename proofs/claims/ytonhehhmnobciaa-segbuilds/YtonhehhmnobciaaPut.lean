/-
  The contracts of Put, the program's and the document's: of a number from 0 to the greatest one its bytes, in new memory; of any other one nothing.
-/
import Derived.Test.YtonhehhmnobciaaWrite
namespace Go.Proofs.Ytonhehhmnobciaa
set_option maxRecDepth 100000
open Go.RowKit

set_option maxHeartbeats 400000 in
theorem put_any (n : Int) (w : World) :
    Calls Try.prog 41 #[.int .i64 n] w fun e w' => ∃ v', e = .returned v' ∧ w'.ownsRow w.heap.size 5 1 v' (V.putA n).length ((V.putA n).map (Value.int .u8)) ∧ Below w.heap.size w w' := by
  by_cases h : 0 ≤ n ∧ n ≤ 34359738367
  · obtain ⟨h0, h1⟩ := h
    rw [V.putA_in ⟨h0, h1⟩, ← V.enc_one]
    go_enter Try.func41, Try.ntmps41
    go_wp2_with fail
    refine (write_any _ [n] _ (Sl.lit (n := 1) [n] rfl rfl (by omega)) (by simp; omega) (by simp)).mono ?_
    rintro e w1 ⟨v1, rfl, hown, hbel⟩
    go_wp2
    go_ret
    exact ⟨_, rfl, own_mono hown (by simp), below_trans' (below_alloc _ _) hbel⟩
  · rw [V.putA_out h]
    by_cases h0 : n < 0
    · go_enter Try.func41, Try.ntmps41
      go_wp2
      go_ret
      exact ⟨_, rfl, World.ownsRow_nil _ _ _ _, Below.refl _ _⟩
    · have h1 : 34359738367 < n := by omega
      clear h
      go_enter Try.func41, Try.ntmps41
      go_wp2
      go_ret
      exact ⟨_, rfl, World.ownsRow_nil _ _ _ _, Below.refl _ _⟩

set_option maxHeartbeats 400000 in
theorem refPut_any (n : Int) (w : World) :
    Calls Try.prog 75 #[.int .i64 n] w fun e w' => ∃ v', e = .returned v' ∧ w'.ownsRow w.heap.size 5 1 v' (V.putA n).length ((V.putA n).map (Value.int .u8)) ∧ Below w.heap.size w w' := by
  obtain ⟨i0, hi, hz0, hz1, hz2⟩ := info_parts Try.info5
  by_cases h : 0 ≤ n ∧ n ≤ 34359738367
  · obtain ⟨h0, h1⟩ := h
    rw [V.putA_in ⟨h0, h1⟩]
    go_enter Try.func75, Try.ntmps75
    go_wp2
    go_loopw [0, 3] (fun nv v wr => ∃ (f : Nat) (m : Int) (pre : List Int), nv = .int .i64 m ∧ 0 ≤ m ∧ m ≤ 34359738367 ∧ m < 128 ^ (f + 1) ∧ pre ++ V.putF f m = V.put n ∧
        wr.ownsRow w.heap.size 5 1 v pre.length (pre.map (Value.int .u8)) ∧ Below w.heap.size w wr) (fun nv _ _ => (intOf nv).toNat)
    case atStart => exact ⟨4, n, [], rfl, h0, h1, V.lt_p5 h1, rfl, World.ownsRow_nil _ _ _ _, Below.refl _ _⟩
    case round =>
      obtain ⟨f, m, pre, rfl, hm0, hm1, hmf, heq, hown1, hbel1⟩ := hrel
      have hpl : pre.length ≤ 5 := by
        have h1 := congrArg List.length heq
        have h3 := (V.put_len n).2
        simp only [List.length_append] at h1
        omega
      have HQ : Hid (pre ++ V.putF f m = V.put n) := heq
      have HF : Hid (m < 128 ^ (f + 1)) := hmf
      have hBs := hbel1.size
      clear heq hmf
      by_cases hge : 128 ≤ m
      · go_wp2_with (at_builtin; refine append_one rfl _ _ 39 rfl Try.underlying39 hi hz0 hz1 hz2 rfl rfl rfl hown1 hbel1 hBs (by omega) (by decide) ?_; intro v1 w1 hown2 hbel2)
        go_roundw
        case rel =>
          obtain ⟨g, hg1, hg2, hg3⟩ := V.putF_more hge HF.out
          refine ⟨g, m / 128, pre ++ [128 + m % 128], rfl, by omega, by omega, hg3, ?_, hown2, hbel2⟩
          have := HQ.out
          rw [hg2, Int.add_comm] at this
          simpa using this
        case measure => simp [intOf]; omega
      · go_wp2_with (at_builtin; refine append_one rfl _ _ 39 rfl Try.underlying39 hi hz0 hz1 hz2 rfl rfl rfl hown1 hbel1 hBs (by omega) (by decide) ?_; intro v1 w1 hown2 hbel2)
        go_ret
        have hq := HQ.out
        rw [V.putF_done (by omega)] at hq
        exact ⟨_, rfl, by rw [← hq]; exact hown2, hbel2⟩
  · rw [V.putA_out h]
    by_cases h0 : n < 0
    · go_enter Try.func75, Try.ntmps75
      go_wp2
      go_ret
      exact ⟨_, rfl, World.ownsRow_nil _ _ _ _, Below.refl _ _⟩
    · have h1 : 34359738367 < n := by omega
      clear h
      go_enter Try.func75, Try.ntmps75
      go_wp2
      go_ret
      exact ⟨_, rfl, World.ownsRow_nil _ _ _ _, Below.refl _ _⟩
end Go.Proofs.Ytonhehhmnobciaa
