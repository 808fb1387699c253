/-
  The contracts of layer 4's small functions: how many, may it be, are two lists the same.
-/
import Derived.Test.YtggojmnalmjapaaRows
import Derived.Test.YtggojmnalmjapaaGBase
import Derived.Test.YtggojmnalmjapaaHelp
import Derived.Test.YtggojmnalmjapaaPlain4
import Derived.Deep.QuietTactic
import Derived.BigQuiet
namespace Go.Proofs.Ytggojmnalmjapaa
set_option maxRecDepth 100000
open Go.RowKit

theorem leq_num (n k : Nat) : decide ((n : Int) ≤ (k : Int)) = decide (n ≤ k) := by
  by_cases h : n ≤ k
  · simp [h]
  · simp [h]

theorem lmay_any (v : Value) (l : List Bool) (w : World) (h : Gl .bool w v l) (r : Bool) (hr : decide (l.length ≤ 64) = r) :
    Calls Try.prog 25 #[v] w fun e w' => e = .returned (.bool r) ∧ w' = w := by
  obtain ⟨a, cap, rfl, hl, hm, hna, ho⟩ := h.open
  clear h ho hna
  go_enter Try.func25, Try.ntmps25
  go_wp2
  go_ret
  exact ⟨by rw [← hr, ← leq_num]; rfl, rfl⟩

theorem count_step {l : List Bool} {k : Nat} {x : Bool} (h : l[k]? = some x) : (l.take (k + 1)).count true = (l.take k).count true + (if x = true then 1 else 0) := by
  obtain ⟨hk, rfl⟩ := List.getElem?_eq_some_iff.1 h
  rw [List.take_succ_eq_append_getElem hk, List.count_append]
  cases l[k] <;> simp

theorem count_le (l : List Bool) : l.count true ≤ l.length := List.count_le_length

end Go.Proofs.Ytggojmnalmjapaa
