/-
  The contract of the function that holds two rows of bytes against each other (Bytes): it tells whether they are the same, and only reads.
-/
import Derived.Test.YtggojmnalmjapaaRows
import Derived.Test.YtggojmnalmjapaaBase
import Derived.Deep.QuietTactic
import Derived.BigQuiet
namespace Go.Proofs.Ytggojmnalmjapaa
set_option maxRecDepth 100000
open Go.RowKit

theorem take_snoc (l : List Int) (k : Nat) (h : k < l.length) : l.take (k + 1) = l.take k ++ [l[k]] := by
  rw [List.take_succ_eq_append_getElem h]

theorem same_step {xs ys : List Int} {k : Nat} (hl : xs.length = ys.length) (hk : k < xs.length) (h : xs.take k = ys.take k) (he : xs[k] = ys[k]'(by omega)) : xs.take (k + 1) = ys.take (k + 1) := by
  rw [take_snoc xs k hk, take_snoc ys k (by omega), h, he]

theorem same_end {xs ys : List Int} {k : Nat} (hl : xs.length = ys.length) (hk : ¬ k < xs.length) (h : xs.take k = ys.take k) : decide (xs = ys) = true := by
  rw [List.take_of_length_le (by omega), List.take_of_length_le (by omega)] at h
  simpa using h

theorem same_not {xs ys : List Int} {k : Nat} (hl : xs.length = ys.length) (hk : k < xs.length) (he : ¬ xs[k] = ys[k]'(by omega)) : decide (xs = ys) = false := by
  apply decide_eq_false
  intro h
  subst h
  exact he rfl

theorem same_len {xs ys : List Int} (hl : ¬ xs.length = ys.length) : decide (xs = ys) = false := by
  apply decide_eq_false
  intro h
  subst h
  exact hl rfl

end Go.Proofs.Ytggojmnalmjapaa
