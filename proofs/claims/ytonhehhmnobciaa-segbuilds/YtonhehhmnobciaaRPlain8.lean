/-
  What the document's own Build goes by, step by step: cards that may be, words added one by one. Plain mathematics; no program is named here.
-/
import Derived.Test.YtonhehhmnobciaaEx8
import Derived.Test.YtonhehhmnobciaaPlainS8
namespace Go.Proofs.Ytonhehhmnobciaa
set_option maxRecDepth 100000
namespace S

theorem words_step {l : List Cd} {i : Nat} {c : Cd} (h : l[i]? = some c) : words (l.take (i + 1)) = D.adds (words (l.take i)) c.w := by
  unfold words D.un
  obtain ⟨hi, rfl⟩ := List.getElem?_eq_some_iff.1 h
  rw [List.take_succ_eq_append_getElem hi, List.map_append, List.foldl_append]
  rfl
theorem adds_app : ∀ (a b o : List ByteArray), D.adds o (a ++ b) = D.adds (D.adds o a) b
  | [], _, _ => rfl
  | x :: a, b, o => adds_app a b (D.add o x)
theorem adds_step {w o : List ByteArray} {k : Nat} {x : ByteArray} (h : w[k]? = some x) : D.adds o (w.take (k + 1)) = D.add (D.adds o (w.take k)) x := by
  obtain ⟨hk, rfl⟩ := List.getElem?_eq_some_iff.1 h
  rw [List.take_succ_eq_append_getElem hk, adds_app]
  rfl
theorem words_len {l : List Cd} (h : ∀ c ∈ l, c.w.length ≤ 120) : ∀ i, i ≤ l.length → (words (l.take i)).length ≤ i * 120
  | 0, _ => by simp [words, D.un]
  | i + 1, hi => by
    have hc : l[i]? = some l[i] := List.getElem?_eq_getElem (by omega)
    have h1 := words_len h i (by omega)
    have h2 := D.adds_len l[i].w (words (l.take i))
    have h3 := h l[i] (List.getElem_mem _)
    rw [words_step hc]
    omega

theorem mayAll_fit {l : List Cd} {c : Cd} (hc : c ∈ l) (h : fits c = false) : mayAll l = false := by
  cases hm : mayAll l with
  | false => rfl
  | true =>
    unfold mayAll at hm
    rw [Bool.and_eq_true, List.all_eq_true] at hm
    rw [hm.1 c hc] at h
    cases h
theorem mayAll_two {l : List Cd} {i j : Nat} {a b : Cd} (hi : l[i]? = some a) (hj : l[j]? = some b) (hij : i < j) (h : a.id = b.id) : mayAll l = false := by
  cases hm : mayAll l with
  | false => rfl
  | true =>
    unfold mayAll at hm
    rw [Bool.and_eq_true, decide_eq_true_eq, List.nodup_iff_pairwise_ne, List.pairwise_map] at hm
    obtain ⟨i1, r1⟩ := List.getElem?_eq_some_iff.1 hi
    obtain ⟨j1, r2⟩ := List.getElem?_eq_some_iff.1 hj
    have := List.pairwise_iff_getElem.1 hm.2 i j i1 j1 hij
    rw [r1, r2] at this
    exact absurd h this
theorem mayAll_all {l : List Cd} (h : ∀ (j : Nat) (c : Cd), l[j]? = some c → fits c = true) (k : ∀ (i j : Nat) (a b : Cd), i < j → l[i]? = some a → l[j]? = some b → a.id ≠ b.id) : mayAll l = true := by
  unfold mayAll
  rw [Bool.and_eq_true, List.all_eq_true, decide_eq_true_eq, List.nodup_iff_pairwise_ne, List.pairwise_map]
  refine ⟨fun c hc => ?_, List.pairwise_iff_getElem.2 fun i j hi hj hij => k i j _ _ hij (List.getElem?_eq_getElem hi) (List.getElem?_eq_getElem hj)⟩
  obtain ⟨j, hj, e⟩ := List.mem_iff_getElem.1 hc
  exact h j c (by rw [List.getElem?_eq_getElem hj, e])

theorem build_arg {l : List Cd} {so : Bool} (h : mayAll l = false) : build l so = (Sg.none, false, 1) := by unfold build; rw [if_pos h]
theorem build_long {l : List Cd} {so : Bool} (h : mayAll l = true) (hl : 64 < l.length) : build l so = (Sg.none, false, 8) := by
  unfold build
  rw [if_neg (by rw [h]; decide), if_pos hl]
theorem build_many {l : List Cd} {so : Bool} (h : mayAll l = true) (hl : l.length ≤ 64) (hw : 200 < (words l).length) : build l so = (Sg.none, false, 8) := by
  unfold build
  have hf : ∀ c ∈ l, fits c = true := by
    unfold mayAll at h
    rw [Bool.and_eq_true, List.all_eq_true] at h
    exact h.1
  rw [if_neg (by rw [h]; decide), if_neg (by omega), if_pos]
  rw [words_may hf]
  exact decide_eq_false (by omega)
theorem build_yes {l : List Cd} {so : Bool} (h : mayAll l = true) (hl : l.length ≤ 64) (hw : (words l).length ≤ 200) : build l so = (seg (if so = true then srt l else l), so, 0) := by
  unfold build
  have hf : ∀ c ∈ l, fits c = true := by
    unfold mayAll at h
    rw [Bool.and_eq_true, List.all_eq_true] at h
    exact h.1
  rw [if_neg (by rw [h]; decide), if_neg (by omega), if_neg]
  rw [words_may hf, decide_eq_true hw]
  decide
end S
end Go.Proofs.Ytonhehhmnobciaa
