/-
  Texts put together: Numb12.
-/
import Derived.Test.YtfniphaehggcgaaQ15
import Derived.Laws.EntriesVeiled
/-
  The contract of numbered: the three policies.
-/
namespace Go.Proofs.Ytfniphaehggcgaa
set_option maxRecDepth 100000
open Go.RowKit

def fnv (f : Nat) : Value := .func (.func f) #[] #[]
def polv (a b c : Nat) : Value := .agg #[fnv a, fnv b, fnv c]

theorem numbered0_any (w : World) : Calls Try.prog 45 #[.int .i64 0] w fun e w' => e = .returned (polv 36 56 57) ∧ Below w.heap.size w w' := by
  go_enter Try.func45, Try.ntmps45
  go_wp2
  exact bodyPost_ret (v := polv 36 56 57) (by simp [results, Try.results45, go_sem, polv, fnv]) rfl ⟨rfl, below_all (below_alloc _ _) _⟩

theorem numbered1_any (w : World) : Calls Try.prog 45 #[.int .i64 1] w fun e w' => e = .returned (polv 36 58 57) ∧ Below w.heap.size w w' := by
  go_enter Try.func45, Try.ntmps45
  go_wp2
  exact bodyPost_ret (v := polv 36 58 57) (by simp [results, Try.results45, go_sem, polv, fnv]) rfl ⟨rfl, below_all (below_alloc _ _) _⟩

theorem numbered2_any (w : World) : Calls Try.prog 45 #[.int .i64 2] w fun e w' => e = .returned (polv 59 60 61) ∧ Below w.heap.size w w' := by
  go_enter Try.func45, Try.ntmps45
  go_wp2
  exact bodyPost_ret (v := polv 59 60 61) (by simp [results, Try.results45, go_sem, polv, fnv]) rfl ⟨rfl, below_all (below_alloc _ _) _⟩
end Go.Proofs.Ytfniphaehggcgaa
