/-
  The contract of slices.Clone at cards.
-/
import Derived.Test.YtonhehhmnobciaaKBase8
import Derived.Lib.SliceRun
namespace Go.Proofs.Ytonhehhmnobciaa
set_option maxRecDepth 100000
open Go.RowKit

set_option maxHeartbeats 1000000 in
theorem cloneC_any (v : Value) (ps : List (Cd × Pts)) (w : World) (h : Kl encC 3 w v ps) (hll : ps.length ≤ 1000000) :
    Calls Try.prog 29 #[v] w fun e w' => ∃ v', e = .returned v' ∧ w'.ownsRow w.heap.size 25 3 v' ps.length (ps.flatMap encC) ∧ Below w.heap.size w w' := by
  obtain ⟨i0, hi, hz0, hz1, hz2⟩ := info_parts Try.infoC
  have H := h
  obtain ⟨a, cap, rfl, hl, hm, hna, -⟩ := h
  have q : ∀ (w : World) (a : Option Addr) (n c n' c' : Nat), (binOp .eql 22 (.slice a n c) (.slice none n' c')).run Try.prog w = .ok (.bool a.isNone) w := fun w a n c n' c' => Lib.run_eql_slice_nil w _ _ a n c n' c' Try.underlying22
  cases a with
  | none =>
    have hl0 : ps = [] := List.eq_nil_of_length_eq_zero (by have := hna rfl; omega)
    subst hl0
    clear H
    go_enter Try.func29, Try.ntmps29
    go_wp2
    go_ret
    exact ⟨_, rfl, World.ownsRow_nil _ _ _ _, Below.refl _ _⟩
  | some x =>
    have H1 := H.below (below_alloc w (.cells #[] 25))
    have O1 := World.ownsRow_made (base := w.heap.size) (e := 25) (size := 3) w #[] 0 (Nat.le_refl _) (Nat.zero_le _) rfl
    have HK1 := hide H1
    clear H H1
    go_enter Try.func29, Try.ntmps29
    go_wp2_with (at_builtin; refine append_allF rfl _ _ 22 rfl Try.underlying22 hi hz0 hz1 hz2 rfl (by decide) encC_len encC_one (pre := []) rfl rfl (unhide HK1) O1 (by simp) (by simp; omega) (by decide) ?_; intro v1 w1 O2 g2)
    go_ret
    exact ⟨_, rfl, by simpa using O2, (below_alloc _ _).grown g2 (by simp) (fun j hj => (O1.lt j hj).1)⟩
end Go.Proofs.Ytonhehhmnobciaa
