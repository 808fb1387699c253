/-
  Texts put together: OwnS8.
-/
import Derived.Test.YtefnkbgkcjhkoaaQ08
import Derived.Deep.RegionHeld3
import Derived.Deep.AppendLies
import Derived.Lib.SliceRun
/-
  The contracts of slices.Clone at numbers, and of own: the same postings in new memory.
-/
namespace Go.Proofs.Ytefnkbgkcjhkoaa
set_option maxRecDepth 100000
open Go.RowKit

/-- Nothing too great for the walks. -/
def Fits (L : List Pt) : Prop := L.length ≤ 100 ∧ ∀ p ∈ L, p.a.length ≤ 1000

/-- The rows of places lie apart from each other. -/
def Ap (cs : List Value) : Prop := ∀ i j u v g, i ≠ j → cs[i * 2 + 1]? = some u → cs[j * 2 + 1]? = some v → u.ownBlock = some g → v.ownBlock ≠ some g

theorem PCp.odd {Q : Value → List Int → Prop} {cs : List Value} {L : List Pt} (h : PCp Q cs L) {i : Nat} {u : Value} (hu : cs[i * 2 + 1]? = some u) : ∃ p, L[i]? = some p ∧ Q u p.a := by
  have hl := h.len
  have hi := (List.getElem?_eq_some_iff.1 hu).1
  have hL : i < L.length := by omega
  obtain ⟨dv, -, h1, h2⟩ := h.at i L[i] (List.getElem?_eq_getElem hL)
  rw [hu] at h1
  simp at h1
  subst h1
  exact ⟨L[i], List.getElem?_eq_getElem hL, h2⟩

theorem Ap.nil : Ap [] := fun i j u v g _ h => by simp at h

theorem Ap.snoc {cs : List Value} {n : Nat} (hl : cs.length = n * 2) (h : Ap cs) {x dv : Value} (hd : ∀ i u g, cs[i * 2 + 1]? = some u → u.ownBlock = some g → dv.ownBlock ≠ some g) : Ap (cs ++ [x, dv]) := by
  intro i j u v g hij hu hv hg
  have hi : i ≤ n := by
    have := (List.getElem?_eq_some_iff.1 hu).1
    simp at this
    omega
  have hj : j ≤ n := by
    have := (List.getElem?_eq_some_iff.1 hv).1
    simp at this
    omega
  have key : ∀ k w, k ≤ n → (cs ++ [x, dv])[k * 2 + 1]? = some w → (k < n ∧ cs[k * 2 + 1]? = some w) ∨ (k = n ∧ w = dv) := by
    intro k w hk hw
    rcases Nat.lt_or_ge k n with h1 | h1
    · left
      rw [List.getElem?_append_left (by omega)] at hw
      exact ⟨h1, hw⟩
    · right
      have e : k = n := by omega
      subst e
      rw [List.getElem?_append_right (by omega), hl, show k * 2 + 1 - k * 2 = 1 by omega] at hw
      simp at hw
      exact ⟨rfl, hw.symm⟩
  rcases key i u hi hu with ⟨i1, hu'⟩ | ⟨rfl, rfl⟩
  · rcases key j v hj hv with ⟨j1, hv'⟩ | ⟨rfl, rfl⟩
    · exact h i j u v g hij hu' hv' hg
    · exact hd i u g hu' hg
  · rcases key j v hj hv with ⟨j1, hv'⟩ | ⟨rfl, rfl⟩
    · intro e
      exact hd j v g hv' e hg
    · exact absurd rfl hij

end Go.Proofs.Ytefnkbgkcjhkoaa
