/-
  The contracts of the functions that hold two lists against each other: are they the same, lives nothing of the one that does not live of the other; what is so of all.
-/
import Derived.Test.YtggojmnalmjapaaSmall4
import Derived.Deep.RegionWith
import Derived.Deep.DeepMust
namespace Go.Proofs.Ytggojmnalmjapaa
set_option maxRecDepth 100000
open Go.RowKit

theorem eq_step {a b : List Bool} {k : Nat} {x : Bool} (hx : a[k]? = some x) (hy : b[k]? = some x) (h : a.take k = b.take k) : a.take (k + 1) = b.take (k + 1) := by
  obtain ⟨hk, hx⟩ := List.getElem?_eq_some_iff.1 hx
  obtain ⟨hk', hy⟩ := List.getElem?_eq_some_iff.1 hy
  rw [List.take_succ_eq_append_getElem hk, List.take_succ_eq_append_getElem hk', h, hx, hy]
theorem eq_end {α : Type} [DecidableEq α] {a b : List α} {k : Nat} (hl : a.length = b.length) (hk : ¬ k < a.length) (h : a.take k = b.take k) : decide (a = b) = true := by
  rw [List.take_of_length_le (by omega), List.take_of_length_le (by omega)] at h
  simpa using h
theorem eq_not {α : Type} [DecidableEq α] {a b : List α} {k : Nat} {x y : α} (hx : a[k]? = some x) (hy : b[k]? = some y) (h : x ≠ y) : decide (a = b) = false := by
  apply decide_eq_false
  intro e
  subst e
  rw [hx] at hy
  exact h (Option.some.inj hy)
theorem eq_len {α : Type} [DecidableEq α] {a b : List α} (h : ¬ a.length = b.length) : decide (a = b) = false := by
  apply decide_eq_false
  intro e
  subst e
  exact h rfl

set_option maxHeartbeats 400000 in
theorem bools_any (va vb : Value) (a b : List Bool) (w : World) (ha : Gl .bool w va a) (hb : Gl .bool w vb b) :
    Calls Try.prog 22 #[va, vb] w fun e w' => e = .returned (.bool (decide (a = b))) ∧ ∃ n, w' = w.drewN n := by
  obtain ⟨aa, ca, rfl, la, ma, na, oa⟩ := ha.open
  obtain ⟨ab, cb, rfl, lb, mb, nb, ob⟩ := hb.open
  clear ha hb
  by_cases hl : a.length = b.length
  · have HL := hide hl
    have h0 : ((a.length : Int) != (b.length : Int)) = false := by simp [hl]
    clear hl
    go_enter Try.func22, Try.ntmps22
    go_wp2
    go_loopw [5] (fun i wr => ∃ k : Nat, k ≤ a.length ∧ i = .int .i64 k ∧ a.take k = b.take k ∧ ∃ n, wr = w.drewN n) (fun i _ => a.length - (intOf i).toNat)
    case atStart => exact ⟨0, Nat.zero_le _, rfl, rfl, 0, rfl⟩
    case round =>
      obtain ⟨k, hk, rfl, ht, n, rfl⟩ := hrel
      have HT := hide ht
      clear ht
      by_cases hlt : k < a.length
      · have hltb : k < b.length := by have := HL.out; omega
        obtain ⟨ba, fa, rfl, _, ca⟩ := oa (by omega)
        obtain ⟨bb, fb, rfl, _, cb⟩ := ob (by omega)
        obtain ⟨x, hx⟩ : ∃ x, a[k]? = some x := ⟨a[k], List.getElem?_eq_getElem hlt⟩
        obtain ⟨y, hy⟩ : ∃ y, b[k]? = some y := ⟨b[k], List.getElem?_eq_getElem hltb⟩
        have c1 := ca k x hx
        have c2 := cb k y hy
        have HX := hide hx
        have HY := hide hy
        clear ca cb oa ob hx hy
        cases x <;> cases y
        · go_wp2
          go_region
          all_goals (try go_wp2)
          go_roundw
          case rel => exact ⟨k + 1, by omega, by go_num, eq_step (unhide HX) (unhide HY) (unhide HT), n + 1, rfl⟩
          case measure => simp [intOf]; omega
        · go_wp2
          go_region
          all_goals (try go_wp2)
          go_ret
          exact ⟨by rw [eq_not (unhide HX) (unhide HY) (by decide)]; rfl, n + 1, rfl⟩
        · go_wp2
          go_region
          all_goals (try go_wp2)
          go_ret
          exact ⟨by rw [eq_not (unhide HX) (unhide HY) (by decide)]; rfl, n + 1, rfl⟩
        · go_wp2
          go_region
          all_goals (try go_wp2)
          go_roundw
          case rel => exact ⟨k + 1, by omega, by go_num, eq_step (unhide HX) (unhide HY) (unhide HT), n + 1, rfl⟩
          case measure => simp [intOf]; omega
      · go_wp2
        go_ret
        exact ⟨by rw [eq_end (unhide HL) hlt (unhide HT)]; rfl, n, rfl⟩
  · have h0 : ((a.length : Int) != (b.length : Int)) = true := by rw [bne_iff_ne]; omega
    go_enter Try.func22, Try.ntmps22
    go_wp2
    go_ret
    exact ⟨by rw [eq_len hl]; rfl, 0, rfl⟩

/-- So far nothing of a lives that does not live of b. -/
def upto (a b : List Bool) (k : Nat) : Prop := ∀ i, i < k → a.getD i false = true → b.getD i false = true
theorem upto_step {a b : List Bool} {k : Nat} {x y : Bool} (hx : a[k]? = some x) (hy : b[k]? = some y) (hxy : x = true → y = true) (h : upto a b k) : upto a b (k + 1) := by
  intro i hi
  rcases Nat.lt_or_ge i k with h1 | h1
  · exact h i h1
  · obtain rfl : i = k := by omega
    simpa [List.getD, hx, hy] using hxy
theorem less_end {a b : List Bool} {k : Nat} (hl : a.length = b.length) (hk : ¬ k < a.length) (h : upto a b k) : L.less a b = true := by
  unfold L.less
  simp only [decide_eq_true_eq]
  exact ⟨hl, fun i hi => h i (by omega)⟩
theorem less_not {a b : List Bool} {k : Nat} (hx : a[k]? = some true) (hy : b[k]? = some false) : L.less a b = false := by
  unfold L.less
  apply decide_eq_false
  rintro ⟨_, h⟩
  have := h k (List.getElem?_eq_some_iff.1 hx).1
  simp [List.getD, hx, hy] at this
theorem less_len {a b : List Bool} (h : ¬ a.length = b.length) : L.less a b = false := by
  unfold L.less
  apply decide_eq_false
  rintro ⟨e, _⟩
  exact h e

end Go.Proofs.Ytggojmnalmjapaa
