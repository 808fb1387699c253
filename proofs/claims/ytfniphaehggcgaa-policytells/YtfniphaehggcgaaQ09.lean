/-
  Texts put together: Make4.
-/
import Derived.Test.YtfniphaehggcgaaQ08
import Derived.Deep.OwnRows
/-
  The contracts of New and And, the program's and the document's.
-/
namespace Go.Proofs.Ytfniphaehggcgaa
set_option maxRecDepth 100000
open Go.RowKit Go.Deep

theorem Try.info4' : (Try.prog.info? 4).map (fun i => (i.zero, i.size, i.bytes)) = some (some (.bool false), 1, 1) := by kernel_rfl

/-- The first j places hold what F tells. -/
def Fill {α : Type} (F : Nat → α) (X : List α) (j : Nat) : Prop := ∀ i, i < j → X[i]? = some (F i)
theorem Fill.set {α : Type} {F : Nat → α} {X : List α} {j : Nat} (h : Fill F X j) (hj : j < X.length) : Fill F (X.set j (F j)) (j + 1) := by
  intro i hi
  by_cases e : i = j
  · subst e; simp [hj]
  · rw [List.getElem?_set_ne (by omega)]
    exact h i (by omega)
theorem Fill.done {α : Type} {F : Nat → α} {X : List α} {k : Nat} (h : Fill F X k) (hk : X.length = k) : X = (List.range k).map F := by
  apply List.ext_getElem?
  intro i
  by_cases e : i < k
  · rw [h i e]; simp [e]
  · rw [List.getElem?_eq_none (by omega), List.getElem?_eq_none (by simp; omega)]

theorem new_fill (k : Nat) (h : k ≤ 64) : L.new (k : Int) = (List.range k).map (fun _ => true) := by
  unfold L.new
  rw [if_pos (by omega)]
  apply List.ext_getElem?
  intro i
  by_cases e : i < k
  · simp [e]
  · rw [List.getElem?_eq_none (by simp; omega), List.getElem?_eq_none (by simp; omega)]
theorem new_out {n : Int} (h : n < 0 ∨ 64 < n) : L.new n = [] := by
  unfold L.new
  rw [if_neg (by omega)]
theorem both_fill {a b : List Bool} (h : a.length = b.length) : L.both a b = (List.range a.length).map (fun i => a.getD i false && b.getD i false) := by
  unfold L.both
  rw [if_pos h]
  apply List.ext_getElem?
  intro i
  by_cases e : i < a.length
  · have e' : i < b.length := by omega
    simp [List.getElem?_zipWith, List.getD, e, e']
  · rw [List.getElem?_eq_none (by simp; omega), List.getElem?_eq_none (by simp; omega)]
theorem both_out {a b : List Bool} (h : ¬ a.length = b.length) : L.both a b = [] := by
  unfold L.both
  rw [if_neg h]

/-- A list of the call's own that a function hands back. -/
def Made (w : World) (m : List Bool) (e : Ending) (w' : World) : Prop :=
  ∃ v', e = .returned v' ∧ w'.ownsRow w.heap.size 4 1 v' m.length (m.map Value.bool) ∧ Below w.heap.size w w'

end Go.Proofs.Ytfniphaehggcgaa
