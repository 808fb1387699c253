/-
  An order turned, number by number: what stands in the list behind each step. Plain mathematics; no program is named here.
-/
import Derived.Test.YtggojmnalmjapaaPlainR10
namespace Go.Proofs.Ytggojmnalmjapaa
set_option maxRecDepth 100000
namespace R

def goodB (p : List Int) : Bool := decide (p.length ≤ 1100) && (List.range p.length).all fun i : Nat => decide ((i : Int) ∈ p)
theorem goodB_iff {p : List Int} : goodB p = true ↔ Good p := by simp [goodB, Good, Ord]
/-- Turn. -/
def turn (p : List Int) : List Int := if goodB p = true then trn p else []
theorem turn_good {p : List Int} (h : Good p) : turn p = trn p := by rw [turn, if_pos (goodB_iff.2 h)]
theorem turn_bad {p : List Int} (h : ¬ Good p) : turn p = [] := by rw [turn, if_neg (fun k => h (goodB_iff.1 k))]

/-- What the list holds when k numbers are put. -/
def St (p : List Int) (k : Nat) (X : List Int) : Prop :=
  X.length = p.length ∧ (∀ x ∈ p.take k, 0 ≤ x ∧ x < (p.length : Int)) ∧ (p.take k).Nodup ∧ ∀ i : Nat, i < p.length → X[i]? = some (if (i : Int) ∈ p.take k then ((p.take k).idxOf (i : Int) : Int) else -1)
theorem St.start (p : List Int) : St p 0 ((List.range p.length).map fun _ => -1) := by
  refine ⟨by simp, by simp, by simp, fun i hi => ?_⟩
  simp [hi]
theorem take_snoc {α : Type} {p : List α} {k : Nat} {x : α} (h : p[k]? = some x) : p.take (k + 1) = p.take k ++ [x] := by
  obtain ⟨hk, rfl⟩ := List.getElem?_eq_some_iff.1 h
  rw [List.take_succ_eq_append_getElem hk]
theorem bad1 {p : List Int} {k : Nat} {x : Int} (h : p[k]? = some x) (hx : ¬ (0 ≤ x ∧ x < (p.length : Int))) : ¬ Ord p := fun ho => hx (ho.bd (List.mem_of_getElem? h))
theorem St.bad2 {p X : List Int} {k q : Nat} {y : Int} (s : St p k X) (h : p[k]? = some (q : Int)) (hq : X[q]? = some y) (hy : y ≠ -1) : ¬ Ord p := by
  intro ho
  have hql := (List.getElem?_eq_some_iff.1 hq).1
  rw [s.1] at hql
  have h1 := s.2.2.2 q hql
  rw [hq] at h1
  by_cases hm : (q : Int) ∈ p.take k
  · obtain ⟨hk, e⟩ := List.getElem?_eq_some_iff.1 h
    obtain ⟨j, hj, e2⟩ := List.mem_iff_getElem.1 hm
    rw [List.length_take] at hj
    rw [List.getElem_take] at e2
    have hn := ho.nodup
    rw [List.nodup_iff_pairwise_ne] at hn
    exact List.pairwise_iff_getElem.1 hn j k (by omega) hk (by omega) (by rw [e2, e])
  · rw [if_neg hm] at h1
    exact hy (Option.some.inj h1)
theorem St.step {p X : List Int} {k q : Nat} (s : St p k X) (h : p[k]? = some (q : Int)) (hq : X[q]? = some (-1)) : St p (k + 1) (X.set q (k : Int)) := by
  have hql := (List.getElem?_eq_some_iff.1 hq).1
  rw [s.1] at hql
  have hk := (List.getElem?_eq_some_iff.1 h).1
  have hnm : (q : Int) ∉ p.take k := fun hm => by
    have h1 := s.2.2.2 q hql
    rw [hq, if_pos hm] at h1
    have := Option.some.inj h1
    omega
  have hlt : (p.take k).length = k := by rw [List.length_take]; omega
  refine ⟨by rw [List.length_set]; exact s.1, fun x hx => ?_, ?_, fun i hi => ?_⟩
  · rw [take_snoc h] at hx
    rcases List.mem_append.1 hx with hx | hx
    · exact s.2.1 x hx
    · simp only [List.mem_singleton] at hx
      omega
  · rw [take_snoc h, List.nodup_append]
    refine ⟨s.2.2.1, by simp, fun a ha b hb e => ?_⟩
    simp only [List.mem_singleton] at hb
    subst hb
    subst e
    exact hnm ha
  · rw [take_snoc h, List.idxOf_append]
    by_cases e : q = i
    · subst e
      rw [List.getElem?_set_self (by rw [s.1]; exact hql), if_pos (by simp), if_neg hnm, hlt]
      simp
    · rw [List.getElem?_set_ne e, s.2.2.2 i hi]
      have hne : ¬ (i : Int) = (q : Int) := by omega
      by_cases hm : (i : Int) ∈ p.take k
      · rw [if_pos hm, if_pos (List.mem_append_left _ hm), if_pos hm]
      · rw [if_neg hm, if_neg (by simp [hm, hne])]
theorem ord_of {p : List Int} (h1 : ∀ x ∈ p, 0 ≤ x ∧ x < (p.length : Int)) (h2 : p.Nodup) : Ord p := by
  have hp := perm_of (l := p) (p := nums p.length) h2 (fun x hx => nums_mem.2 (h1 x hx)) (by rw [nums_len]; exact Nat.le_refl _)
  intro i hi
  exact hp.mem_iff.1 (nums_mem.2 (by omega))
theorem St.done {p X : List Int} {k : Nat} (s : St p k X) (hk : p.length ≤ k) : Ord p ∧ X = trn p := by
  obtain ⟨h1, h2, h3, h4⟩ := s
  rw [List.take_of_length_le hk] at h2 h3 h4
  have ho := ord_of h2 h3
  refine ⟨ho, ?_⟩
  apply List.ext_getElem?
  intro i
  by_cases hi : i < p.length
  · rw [h4 i hi, trn_at hi, if_pos (ho i hi)]
    rfl
  · rw [List.getElem?_eq_none (by omega), List.getElem?_eq_none (by rw [trn_len]; omega)]

/-! ### The document's -/

/-- Where a number stands; -1: nowhere, or twice. -/
def whr (p : List Int) (n : Int) : Int := if p.count n = 1 then (p.idxOf n : Int) else -1
/-- What where holds behind k numbers. -/
def wst (p : List Int) (n : Int) (k : Nat) (m : Int) : Prop := ((p.take k).count n = 0 ∧ m = -1) ∨ ((p.take k).count n = 1 ∧ m = ((p.take k).idxOf n : Int))
theorem wst_start (p : List Int) (n : Int) : wst p n 0 (-1) := .inl (by simp)
theorem count_snoc {p : List Int} {k : Nat} {x n : Int} (h : p[k]? = some x) : (p.take (k + 1)).count n = (p.take k).count n + (if x = n then 1 else 0) := by
  rw [take_snoc h, List.count_append, List.count_singleton]
  by_cases e : x = n <;> simp [e]
theorem wst_skip {p : List Int} {n m : Int} {k : Nat} {x : Int} (s : wst p n k m) (h : p[k]? = some x) (hx : x ≠ n) : wst p n (k + 1) m := by
  have hc := count_snoc (n := n) h
  rw [if_neg hx, Nat.add_zero] at hc
  rcases s with ⟨s1, s2⟩ | ⟨s1, s2⟩
  · exact .inl ⟨hc.trans s1, s2⟩
  · refine .inr ⟨hc.trans s1, ?_⟩
    have hm : n ∈ p.take k := List.count_pos_iff.1 (by omega)
    rw [take_snoc h, List.idxOf_append, if_pos hm]
    exact s2
theorem wst_hit {p : List Int} {n m : Int} {k : Nat} (s : wst p n k m) (h : p[k]? = some n) (hm : m < 0) : wst p n (k + 1) (k : Int) := by
  have hc := count_snoc (n := n) h
  rw [if_pos rfl] at hc
  rcases s with ⟨s1, s2⟩ | ⟨s1, s2⟩
  · refine .inr ⟨by omega, ?_⟩
    have hk := (List.getElem?_eq_some_iff.1 h).1
    have hm : n ∉ p.take k := fun h9 => by have := List.count_pos_iff.2 h9; omega
    rw [take_snoc h, List.idxOf_append, if_neg hm, List.length_take]
    simp
    omega
  · omega
theorem wst_twice {p : List Int} {n m : Int} {k : Nat} (s : wst p n k m) (h : p[k]? = some n) (hm : 0 ≤ m) : whr p n = -1 := by
  have hc := count_snoc (n := n) h
  rw [if_pos rfl] at hc
  rcases s with ⟨s1, s2⟩ | ⟨s1, s2⟩
  · omega
  · have h2 : (p.take (k + 1)).count n ≤ p.count n := (List.take_sublist _ _).count_le n
    unfold whr
    rw [if_neg (by omega)]
theorem wst_done {p : List Int} {n m : Int} {k : Nat} (s : wst p n k m) (hk : p.length ≤ k) : whr p n = m := by
  unfold wst at s
  rw [List.take_of_length_le hk] at s
  unfold whr
  rcases s with ⟨s1, s2⟩ | ⟨s1, s2⟩
  · rw [if_neg (by omega), s2]
  · rw [if_pos s1, s2]
theorem wst_ge {p : List Int} {n m : Int} {k : Nat} (s : wst p n k m) (hk : k ≤ 1100) : -1 ≤ m ∧ m ≤ 1100 := by
  rcases s with ⟨s1, s2⟩ | ⟨s1, s2⟩
  · omega
  · have := List.idxOf_le_length (a := n) (l := p.take k)
    rw [List.length_take] at this
    omega
theorem whr_neg {p : List Int} {i : Nat} (hi : i < p.length) (h : whr p (i : Int) < 0) : ¬ Ord p := by
  intro ho
  have h1 : p.count (i : Int) = 1 := by rw [List.Nodup.count ho.nodup, if_pos (ho i hi)]
  rw [whr, if_pos h1] at h
  omega
theorem whr_pos {p : List Int} {i : Nat} (h : 0 ≤ whr p (i : Int)) : (i : Int) ∈ p ∧ whr p (i : Int) = (at' p (i : Int) : Int) := by
  unfold whr at h ⊢
  by_cases h1 : p.count (i : Int) = 1
  · rw [if_pos h1]
    exact ⟨List.count_pos_iff.1 (by omega), rfl⟩
  · rw [if_neg h1] at h
    omega
/-- What the document's list holds behind k numbers. -/
def Dt (p : List Int) (k : Nat) (X : List Int) : Prop := X = (List.range k).map (fun i : Nat => (at' p (i : Int) : Int)) ∧ ∀ i : Nat, i < k → (i : Int) ∈ p
theorem Dt.step {p X : List Int} {k : Nat} (s : Dt p k X) (h : 0 ≤ whr p (k : Int)) : Dt p (k + 1) (X ++ [whr p (k : Int)]) := by
  obtain ⟨h1, h2⟩ := whr_pos h
  refine ⟨by rw [List.range_succ, List.map_append, s.1, h2]; rfl, fun i hi => ?_⟩
  by_cases e : i = k
  · rw [e]; exact h1
  · exact s.2 i (by omega)
theorem Dt.done {p X : List Int} (s : Dt p p.length X) : Ord p ∧ X = trn p := by
  refine ⟨s.2, ?_⟩
  rw [s.1, trn, nums, List.map_map]
  rfl
end R
end Go.Proofs.Ytggojmnalmjapaa
