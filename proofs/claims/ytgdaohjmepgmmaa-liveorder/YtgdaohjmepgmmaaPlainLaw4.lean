/-
  The plain facts that layer 4's statements rest on: Less is an order, And is the greatest one below both, who dies is one fewer. No program is named here.
-/
import Derived.Test.YtgdaohjmepgmmaaPlain4
namespace Go.Proofs.Ytgdaohjmepgmmaa.L

theorem less_iff {a b : List Bool} : less a b = true ↔ a.length = b.length ∧ ∀ i, i < a.length → a.getD i false = true → b.getD i false = true := by
  unfold less
  simp only [decide_eq_true_eq]

theorem less_refl (a : List Bool) : less a a = true := less_iff.2 ⟨rfl, fun _ _ h => h⟩

theorem less_trans {a b c : List Bool} (h1 : less a b = true) (h2 : less b c = true) : less a c = true := by
  obtain ⟨l1, h1⟩ := less_iff.1 h1
  obtain ⟨l2, h2⟩ := less_iff.1 h2
  exact less_iff.2 ⟨l1.trans l2, fun i hi h => h2 i (by omega) (h1 i hi h)⟩

theorem eq_of_getD {a b : List Bool} (hl : a.length = b.length) (h : ∀ i, i < a.length → a.getD i false = b.getD i false) : a = b := by
  apply List.ext_getElem hl
  intro i h1 h2
  have := h i h1
  simpa [List.getD, h1, h2] using this

theorem less_anti {a b : List Bool} {s t : Bool} (h1 : less a b = s) (h2 : less b a = t) : decide (a = b) = (s && t) := by
  subst h1 h2
  rw [Bool.eq_iff_iff]
  simp only [decide_eq_true_eq, Bool.and_eq_true]
  constructor
  · rintro rfl
    exact ⟨less_refl a, less_refl a⟩
  · rintro ⟨h1, h2⟩
    obtain ⟨l1, h1⟩ := less_iff.1 h1
    obtain ⟨l2, h2⟩ := less_iff.1 h2
    refine eq_of_getD l1 fun i hi => ?_
    have k1 := h1 i hi
    have k2 := h2 i (by omega)
    revert k1 k2
    cases a.getD i false <;> cases b.getD i false <;> simp

theorem less_cons {x y : Bool} {a b : List Bool} (h : less (x :: a) (y :: b) = true) : (x = true → y = true) ∧ less a b = true := by
  obtain ⟨hl, h⟩ := less_iff.1 h
  refine ⟨by simpa using h 0 (by simp), less_iff.2 ⟨by simpa using hl, fun i hi => ?_⟩⟩
  simpa using h (i + 1) (by simpa using hi)

theorem less_count : ∀ {a b : List Bool}, less a b = true → count a ≤ count b
  | [], b, _ => by simp [count]
  | x :: a, [], h => by have := (less_iff.1 h).1; simp at this
  | x :: a, y :: b, h => by
    obtain ⟨h1, h2⟩ := less_cons h
    have ih := less_count h2
    unfold count at ih ⊢
    revert h1
    cases x <;> cases y <;> simp <;> omega

theorem both_len {a b : List Bool} (h : a.length = b.length) : (both a b).length = a.length := by
  unfold both
  rw [if_pos h]
  simp
  omega
theorem both_getD {a b : List Bool} (h : a.length = b.length) (i : Nat) : (both a b).getD i false = (a.getD i false && b.getD i false) := by
  unfold both
  rw [if_pos h]
  by_cases e : i < a.length
  · have e' : i < b.length := by omega
    simp [List.getD, List.getElem?_zipWith, e, e']
  · simp [List.getD, List.getElem?_eq_none (show a.length ≤ i by omega), List.getElem?_eq_none (show (List.zipWith (· && ·) a b).length ≤ i by simp; omega)]
theorem both_comm {a b : List Bool} (h : a.length = b.length) : both b a = both a b := by
  refine eq_of_getD (by rw [both_len h, both_len h.symm, h]) fun i _ => ?_
  rw [both_getD h, both_getD h.symm, Bool.and_comm]
theorem both_self (a : List Bool) : both a a = a := by
  refine eq_of_getD (both_len rfl) fun i _ => ?_
  rw [both_getD rfl, Bool.and_self]
theorem both_left {a b : List Bool} (h : a.length = b.length) : less (both a b) a = true := by
  refine less_iff.2 ⟨both_len h, fun i _ hx => ?_⟩
  rw [both_getD h, Bool.and_eq_true] at hx
  exact hx.1
theorem both_right {a b : List Bool} (h : a.length = b.length) : less (both a b) b = true := by
  refine less_iff.2 ⟨(both_len h).trans h, fun i _ hx => ?_⟩
  rw [both_getD h, Bool.and_eq_true] at hx
  exact hx.2
theorem both_above {a b c : List Bool} {s t : Bool} (h : a.length = b.length) (h1 : less c a = s) (h2 : less c b = t) : less c (both a b) = (s && t) := by
  subst h1 h2
  rw [Bool.eq_iff_iff]
  simp only [Bool.and_eq_true]
  constructor
  · intro k
    exact ⟨less_trans k (both_left h), less_trans k (both_right h)⟩
  · rintro ⟨k1, k2⟩
    obtain ⟨l1, k1⟩ := less_iff.1 k1
    obtain ⟨l2, k2⟩ := less_iff.1 k2
    refine less_iff.2 ⟨by rw [both_len h, l1], fun i hi hc => ?_⟩
    rw [both_getD h, k1 i hi hc, k2 i hi hc]
    rfl

theorem count_set : ∀ (l : List Bool) (p : Nat), l[p]? = some true → count (l.set p false) + 1 = count l
  | [], p, h => by simp at h
  | x :: l, 0, h => by
    simp at h
    subst h
    simp [count]
  | x :: l, p + 1, h => by
    have ih := count_set l p (by simpa using h)
    unfold count at ih ⊢
    rw [List.set_cons_succ]
    cases x <;> simp <;> omega
theorem set_less {l : List Bool} {p : Nat} (h : l[p]? = some true) : less (l.set p false) l = true ∧ less l (l.set p false) = false := by
  have hp := (List.getElem?_eq_some_iff.1 h).1
  constructor
  · refine less_iff.2 ⟨by simp, fun i hi => ?_⟩
    by_cases e : p = i
    · subst e; simp [List.getD, hp]
    · simp [List.getD, List.getElem?_set_ne e]
  · unfold less
    apply decide_eq_false
    rintro ⟨_, k⟩
    have h2 : l[p] = true := by simpa [hp] using h
    have h3 := k p hp
    simp [List.getD, hp, h2] at h3
theorem set_dead {l : List Bool} {p : Nat} (hp : p < l.length) : (l.set p false)[p]? = some false := by simp [hp]

theorem new_len {k : Nat} (h : k ≤ 64) : (new (k : Int)).length = k := by
  unfold new
  rw [if_pos (by omega)]
  simp
theorem new_count {k : Nat} (h : k ≤ 64) : (count (new (k : Int)) : Int) = (k : Int) := by
  unfold new count
  rw [if_pos (by omega)]
  simp
theorem new_less {k : Nat} (h : k ≤ 64) {l : List Bool} (hl : l.length = k) : less l (new (k : Int)) = true := by
  refine less_iff.2 ⟨by rw [new_len h, hl], fun i hi _ => ?_⟩
  unfold new
  rw [if_pos (by omega)]
  have : i < k := by omega
  simp [List.getD, this]
end Go.Proofs.Ytgdaohjmepgmmaa.L
