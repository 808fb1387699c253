/-
  What follows of the bytes of numbers, in plain mathematics: no number's bytes begin another one's; greater numbers have no fewer bytes.
-/
import Derived.Test.YtggojmnalmjapaaPlainList
namespace Go.Proofs.Ytggojmnalmjapaa.V

theorem putF_mono : ∀ (f : Nat) (a b : Int), 0 ≤ a → a ≤ b → (putF f a).length ≤ (putF f b).length
  | 0, _, _, _, _ => by simp [putF]
  | f + 1, a, b, h0, h => by
    by_cases ha : 128 ≤ a
    · have ih := putF_mono f (a / 128) (b / 128) (by omega) (by omega)
      have hb : 128 ≤ b := by omega
      rw [putF, if_pos ha, putF, if_pos hb]
      simp [ih]
    · have := (putF_len (f + 1) b).1
      rw [putF, if_neg ha]
      simpa using this

theorem put_mono {a b : Int} (h0 : 0 ≤ a) (h : a ≤ b) : (put a).length ≤ (put b).length := putF_mono 4 a b h0 h

/-- If the bytes of a begin those of b, both are the same number. -/
theorem put_begin {a b : Int} (ha : 0 ≤ a ∧ a ≤ 34359738367) (hb : 0 ≤ b ∧ b ≤ 34359738367) (h : put a = (put b).take (put a).length) : a = b := by
  have h1 := getH_put a ((put b).drop (put a).length) ha.1 ha.2
  have h2 := getH_put b [] hb.1 hb.2
  have e : put a ++ (put b).drop (put a).length = put b := by
    have := List.take_append_drop (put a).length (put b)
    rw [← h] at this
    exact this
  rw [e] at h1
  rw [List.append_nil, h1] at h2
  simp at h2
  exact h2.1

theorem put_apart {a b : Int} {k : Nat} (ha : 0 ≤ a ∧ a ≤ 34359738367) (hb : 0 ≤ b ∧ b ≤ 34359738367) (hne : a ≠ b) (hk : (k = (put a).length ∧ k ≤ (put b).length) ∨ (k = (put b).length ∧ k ≤ (put a).length)) :
    decide ((put a).take k = (put b).take k) = false := by
  apply decide_eq_false
  intro h
  rcases hk with ⟨rfl, _⟩ | ⟨rfl, _⟩
  · rw [List.take_length] at h
    exact hne (put_begin ha hb h)
  · rw [List.take_length] at h
    exact hne (put_begin hb ha h.symm).symm

theorem putA_zero (n : Int) : ((((putA n).length : Int) == 0) = true ∧ putA n = [] ∧ ¬ (0 ≤ n ∧ n ≤ 34359738367)) ∨ ((((putA n).length : Int) == 0) = false ∧ putA n = put n ∧ 0 < (putA n).length ∧ (0 ≤ n ∧ n ≤ 34359738367)) := by
  by_cases h : 0 ≤ n ∧ n ≤ 34359738367
  · right
    have := (put_len n).1
    rw [putA_in h]
    exact ⟨by rw [beq_eq_false_iff_ne]; omega, rfl, by omega, h⟩
  · left
    rw [putA_out h]
    exact ⟨rfl, rfl, h⟩

end Go.Proofs.Ytggojmnalmjapaa.V
