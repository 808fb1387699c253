/-
  Texts put together: Make4.
-/
import Derived.Test.YtnahjaloodeicaaGreatM08
import Derived.Deep.OwnRows
/-
  The contracts of New and And, the program's and the document's.
-/
namespace Go.Proofs.YtnahjaloodeicaaGreat
set_option maxRecDepth 100000
open Go.RowKit Go.Deep

theorem Tryz.info4' : (Tryz.prog.info? 4).map (fun i => (i.zero, i.size, i.bytes)) = some (some (.bool false), 1, 1) := by kernel_rfl

/-- The first j places hold what F tells. -/
def Fill {α : Type} (F : Nat → α) (X : List α) (j : Nat) : Prop := ∀ i, i < j → X[i]? = some (F i)
theorem Fill.set {α : Type} {F : Nat → α} {X : List α} {j : Nat} (h : Fill F X j) (hj : j < X.length) : Fill F (X.set j (F j)) (j + 1) := by
  intro i hi
  by_cases e : i = j
  · subst e; simp [hj]
  · rw [List.getElem?_set_ne (by omega)]
    exact h i (by omega)
theorem Fill.done {α : Type} {F : Nat → α} {X : List α} {k : Nat} (h : Fill F X k) (hk : X.length = k) : X = (List.range k).map F := by
  apply List.ext_getElem?
  intro i
  by_cases e : i < k
  · rw [h i e]; simp [e]
  · rw [List.getElem?_eq_none (by omega), List.getElem?_eq_none (by simp; omega)]

theorem new_fill (k : Nat) (h : k ≤ 64) : L.new (k : Int) = (List.range k).map (fun _ => true) := by
  unfold L.new
  rw [if_pos (by omega)]
  apply List.ext_getElem?
  intro i
  by_cases e : i < k
  · simp [e]
  · rw [List.getElem?_eq_none (by simp; omega), List.getElem?_eq_none (by simp; omega)]
theorem new_out {n : Int} (h : n < 0 ∨ 64 < n) : L.new n = [] := by
  unfold L.new
  rw [if_neg (by omega)]
theorem both_fill {a b : List Bool} (h : a.length = b.length) : L.both a b = (List.range a.length).map (fun i => a.getD i false && b.getD i false) := by
  unfold L.both
  rw [if_pos h]
  apply List.ext_getElem?
  intro i
  by_cases e : i < a.length
  · have e' : i < b.length := by omega
    simp [List.getElem?_zipWith, List.getD, e, e']
  · rw [List.getElem?_eq_none (by simp; omega), List.getElem?_eq_none (by simp; omega)]
theorem both_out {a b : List Bool} (h : ¬ a.length = b.length) : L.both a b = [] := by
  unfold L.both
  rw [if_neg h]

/-- A list of the call's own that a function hands back. -/
def Made (w : World) (m : List Bool) (e : Ending) (w' : World) : Prop :=
  ∃ v', e = .returned v' ∧ w'.ownsRow w.heap.size 4 1 v' m.length (m.map Value.bool) ∧ Below w.heap.size w w'

set_option maxHeartbeats 1000000 in
theorem new_any (n : Int) (w : World) : Calls Tryz.prog 16 #[.int .i64 n] w (Made w (L.new n)) := by
  by_cases h0 : n < 0
  · rw [new_out (.inl h0)]
    go_enter Tryz.func16, Tryz.ntmps16
    go_wp2
    go_ret
    exact ⟨_, rfl, World.ownsRow_nil _ _ _ _, Below.refl _ _⟩
  · by_cases h1 : 64 < n
    · rw [new_out (.inr h1)]
      go_enter Tryz.func16, Tryz.ntmps16
      go_wp2
      go_ret
      exact ⟨_, rfl, World.ownsRow_nil _ _ _ _, Below.refl _ _⟩
    · obtain ⟨k, rfl⟩ := Int.eq_ofNat_of_zero_le (show 0 ≤ n by omega)
      have hk : k ≤ 64 := by omega
      rw [new_fill k hk]
      clear h0 h1
      have hmk := run_make_row' (P := Tryz.prog) 38 4 (.bool false) 1 Tryz.underlying38 Tryz.info4' rfl .i64 .i64 k (by omega) (by omega)
      go_enter Tryz.func16, Tryz.ntmps16
      go_wp2
      go_loopw [14] (fun iv wr => ∃ (j : Nat) (X : List Bool), j ≤ k ∧ iv = .int .i64 j ∧ X.length = k ∧ Fill (fun _ => true) X j ∧
          wr.ownsRow w.heap.size 4 1 (.slice (some ⟨w.heap.size, 0, none⟩) k k) X.length (X.map Value.bool) ∧ Below w.heap.size w wr) (fun iv _ => k - (intOf iv).toNat)
      case atStart => exact ⟨0, List.replicate k false, Nat.zero_le _, rfl, by simp, (fun i hi => by omega), made_own w _ false k (by unfold maxLen; omega), below_alloc _ _⟩
      case round =>
        obtain ⟨j, X, hj, rfl, hX, hF, hown, hbel⟩ := hrel
        have HX := hide hX
        have HF := hide hF
        clear hX hF hmk
        by_cases hlt : j < k
        · have hz := own_froz hown (unhide HX).symm j
          obtain ⟨x, hx⟩ : ∃ x, X[j]? = some x := ⟨X[j]'(by rw [unhide HX]; exact hlt), List.getElem?_eq_getElem _⟩
          have c1 := own_at hown (unhide HX).symm hx
          clear hx
          go_wp2
          go_roundw
          case rel => exact ⟨j + 1, X.set j true, by omega, by go_num, by simp [unhide HX], Fill.set (unhide HF) (by rw [unhide HX]; exact hlt), own_put hown (unhide HX).symm j true, hbel.setCell (Nat.le_refl _) _⟩
          case measure => simp [intOf]; omega
        · go_wp2
          go_ret
          have e : X = (List.range k).map (fun _ => true) := Fill.done (fun i hi => (unhide HF) i (by omega)) (unhide HX)
          exact ⟨_, rfl, by rw [← e]; exact hown, hbel⟩

end Go.Proofs.YtnahjaloodeicaaGreat
