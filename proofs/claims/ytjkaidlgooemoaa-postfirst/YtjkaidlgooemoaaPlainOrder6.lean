/-
  What follows of Put, in plain mathematics: what is put is there, and all that was; in whatever order.
-/
import Derived.Test.YtjkaidlgooemoaaAwake6
namespace Go.Proofs.Ytjkaidlgooemoaa.Q

theorem putE_zero {L : List Pt} {d x : Int} (h : putE L d x = 0) : argB L d x = true ∧ hasP L d x = false ∧ putA L d x = putL L d x := by
  unfold putE at h
  split at h
  · rename_i h1
    split at h
    · simp at h
    · rename_i h2
      have h2' : hasP L d x = false := by simpa using h2
      exact ⟨h1, h2', (put_new h1 h2').1⟩
  · simp at h
theorem putE_not {L : List Pt} {d x : Int} (h : ¬ putE L d x = 0) : putA L d x = L := by
  unfold putE at h
  unfold putA
  split at h
  · rename_i h1
    split at h
    · rename_i h2
      rw [if_neg (by rw [h2]; simp)]
    · exact absurd rfl h
  · rename_i h1
    rw [if_neg (fun h => h1 h.1)]

theorem arg_parts {L : List Pt} {d x : Int} (h : argB L d x = true) : may L = true ∧ (0 ≤ d ∧ d ≤ 63) ∧ (0 ≤ x ∧ x ≤ 119) := by
  simp only [argB, Bool.and_eq_true, decide_eq_true_eq] at h
  exact ⟨h.1.1, h.1.2, h.2⟩
theorem arg_mk {L : List Pt} {d x : Int} (h : may L = true) (h1 : 0 ≤ d ∧ d ≤ 63) (h2 : 0 ≤ x ∧ x ≤ 119) : argB L d x = true := by
  simp only [argB, Bool.and_eq_true, decide_eq_true_eq]
  exact ⟨⟨h, h1⟩, h2⟩
theorem may_put {L : List Pt} {d x : Int} (h : argB L d x = true) (h2 : hasP L d x = false) : may (putL L d x) = true := by
  obtain ⟨a, b, c⟩ := arg_parts h
  exact putL_may a b.1 (by omega) c.1 (by omega) h2
theorem has_put {L : List Pt} {d x : Int} (h : argB L d x = true) : hasP (putL L d x) d x = true := (putL_has (arg_parts h).1 d x).2 (.inr ⟨rfl, rfl⟩)
theorem again {L : List Pt} {d x : Int} (h : argB L d x = true) (h2 : hasP L d x = false) : putE (putL L d x) d x = 3 := by
  obtain ⟨a, b, c⟩ := arg_parts h
  exact (put_there (arg_mk (may_put h h2) b c) (has_put h)).2
theorem find_put {L : List Pt} {d x : Int} (h : argB L d x = true) (h2 : hasP L d x = false) : 0 ≤ find (putL L d x) d := by
  have h3 := has_put h
  unfold hasP at h3
  cases hp : (putL L d x)[first (putL L d x) d]? with
  | none => rw [hp] at h3; simp at h3
  | some p =>
    rw [hp] at h3
    simp only [Bool.and_eq_true] at h3
    rw [find_at (may_put h h2) (by rw [hasD_at hp]; exact h3.1)]
    omega
theorem other_put {L : List Pt} {d x o t : Int} (h : argB L d x = true) (h2 : hasP L d x = false) (k : argB L o t = true) (k2 : hasP L o t = false) (hne : ¬ (d = o ∧ x = t)) :
    putE (putL L d x) o t = 0 ∧ putA (putL L d x) o t = putL (putL L d x) o t ∧ hasP (putL L d x) o t = false ∧ argB (putL L d x) o t = true := by
  obtain ⟨a, b, c⟩ := arg_parts k
  have h3 := arg_mk (may_put h h2) b c
  have h4 : hasP (putL L d x) o t = false := by
    rw [← Bool.not_eq_true, putL_has (arg_parts h).1]
    rintro (e | e)
    · rw [k2] at e; simp at e
    · exact hne ⟨e.1.symm, e.2.symm⟩
  exact ⟨(put_new h3 h4).2, (put_new h3 h4).1, h4, h3⟩
theorem put_swap {L : List Pt} {d x o t : Int} (h : argB L d x = true) (h2 : hasP L d x = false) (k : argB L o t = true) (k2 : hasP L o t = false) (hne : ¬ (d = o ∧ x = t)) : putL (putL L d x) o t = putL (putL L o t) d x := by
  obtain ⟨-, -, p3, p4⟩ := other_put h h2 k k2 hne
  obtain ⟨-, -, q3, q4⟩ := other_put k k2 h h2 (fun e => hne ⟨e.1.symm, e.2.symm⟩)
  refine may_ext (may_put p4 p3) (may_put q4 q3) fun u y => ?_
  rw [putL_has (may_put h h2), putL_has (arg_parts h).1, putL_has (may_put k k2), putL_has (arg_parts h).1]
  constructor
  · rintro ((e | e) | e)
    · exact .inl (.inl e)
    · exact .inr e
    · exact .inl (.inr e)
  · rintro ((e | e) | e)
    · exact .inl (.inl e)
    · exact .inr e
    · exact .inl (.inr e)
theorem may_fits {L : List Pt} (h : may L = true) : Fits L :=
  ⟨by have := may_le h; omega, fun p hp => by have := places_le (may_all h p hp).2; omega⟩
end Go.Proofs.Ytjkaidlgooemoaa.Q
