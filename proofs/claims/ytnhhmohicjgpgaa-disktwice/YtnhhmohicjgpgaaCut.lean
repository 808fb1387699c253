/-
  A slice of files, cut; files with one more, and without one, over plain lists.
-/
import Derived.Test.YtnhhmohicjgpgaaPlainFind
namespace Go.Proofs.Ytnhhmohicjgpgaa
open Go.RowKit

theorem Fl.cut {w : World} {a : Option Addr} {cap : Nat} {L : List Pf} (h : Fl w (.slice a L.length cap) L) (m : Nat) (hm : m ≤ L.length) :
    ∃ v1 v2, (∀ w', (Instr.slice 22 (.slice a L.length cap) none (some (.int .i64 m)) none).run Try.prog w' = .ok v1 w') ∧ (∀ w', (Instr.slice 22 (.slice a L.length cap) (some (.int .i64 m)) none none).run Try.prog w' = .ok v2 w') ∧ Fl w v1 (L.take m) ∧ Fl w v2 (L.drop m) := by
  obtain ⟨a', cap', hv, hl, hmx, hn, hc⟩ := h
  simp only [Value.slice.injEq, true_and] at hv
  obtain ⟨rfl, rfl⟩ := hv
  have hs : ∀ w : World, (sizeOf (Try.prog.elem 22)).run Try.prog w = .ok 3 w := fun w => by kernel_rfl
  refine ⟨sliced a 0 m cap 3, sliced a m L.length cap 3, ?_, ?_, ?_, ?_⟩
  · intro w'
    rw [run_slice_h w' 22 _ L.length cap (by kernel_rfl) .i64 m (by omega) (by omega), hs]
    simp [Result.andThen]
  · intro w'
    rw [run_slice_l w' 22 _ L.length cap (by kernel_rfl) .i64 m (by omega) (by omega), hs]
    simp [Result.andThen]
  · refine ⟨_, cap, by simp only [sliced, List.length_take, Nat.sub_zero, Nat.min_eq_left hm]; rfl, by simp; omega, hmx, ?_, ?_⟩
    · intro h
      split at h
      · exact hn h
      · simp at h; exact hn h
    · intro x hx i f hf
      have hi : i < m := by
        have := (List.getElem?_eq_some_iff.1 hf).1
        simp at this; omega
      have hfl : L[i]? = some f := by rw [List.getElem?_take_of_lt hi] at hf; exact hf
      rw [if_neg (by omega)] at hx
      cases a with
      | none => simp at hx
      | some y =>
        have hcy := hc y rfl i f hfl
        obtain ⟨dv0, z0, -⟩ := hc y rfl 0 L[0] (List.getElem?_eq_getElem (by omega))
        obtain ⟨b, off, spot⟩ := y
        have hsp : spot = none := by simpa [Addr.add] using World.cell?_spot z0
        subst hsp
        simp [Addr.add_lit] at hx
        subst hx
        exact hcy
  · refine ⟨_, cap - m, by simp only [sliced, List.length_drop]; rfl, by simp; omega, by unfold maxLen at *; omega, ?_, ?_⟩
    · intro h
      split at h
      · have := hn h; omega
      · simp at h; have := hn h; omega
    · intro x hx i f hf
      have hi : m + i < L.length := by
        have := (List.getElem?_eq_some_iff.1 hf).1
        simp at this; omega
      have hfl : L[m + i]? = some f := by rw [List.getElem?_drop] at hf; exact hf
      rw [if_neg (by omega)] at hx
      cases a with
      | none => simp at hx
      | some y =>
        have hcy := hc y rfl (m + i) f hfl
        obtain ⟨dv, h0, h1, h2, h3⟩ := hcy
        obtain ⟨dv0, z0, -⟩ := hc y rfl 0 L[0] (List.getElem?_eq_getElem (by omega))
        obtain ⟨b, off, spot⟩ := y
        have hsp : spot = none := by simpa [Addr.add] using World.cell?_spot z0
        subst hsp
        simp [Addr.add_lit] at hx
        subst hx
        simp only [Addr.add_lit] at h0 h1 h2 ⊢
        exact ⟨dv, by rw [← h0]; congr 2; omega, by rw [← h1]; congr 2; omega, by rw [← h2]; congr 2; omega, h3⟩

/-- Files and one more, in its place. -/
def K.with (L : List Pf) (f : Pf) : List Pf := L.takeWhile (fun g => K.lt g.nm f.nm) ++ f :: L.dropWhile (fun g => K.lt g.nm f.nm)
/-- Files without one. -/
def K.without (L : List Pf) (s : ByteArray) : List Pf := L.filter (fun g => decide (g.nm ≠ s))

theorem K.while_at (p : Pf → Bool) : ∀ (L : List Pf) (k : Nat), k ≤ L.length → (∀ j f, j < k → L[j]? = some f → p f = true) → (∀ f, L[k]? = some f → p f = false) → L.takeWhile p = L.take k ∧ L.dropWhile p = L.drop k
  | [], _, _, _, _ => by simp
  | f :: L, 0, _, _, h => by
    have := h f rfl
    simp [this]
  | f :: L, k + 1, hk, ha, hb => by
    have h0 := ha 0 f (by omega) rfl
    obtain ⟨i1, i2⟩ := K.while_at p L k (by simpa using hk) (fun j g hj hg => ha (j + 1) g (by omega) (by simpa using hg)) (fun g hg => hb g (by simpa using hg))
    simp [h0, i1, i2]

theorem K.with_at {L : List Pf} {f : Pf} {k : Nat} (hk : k ≤ L.length) (ha : ∀ j g, j < k → L[j]? = some g → K.lt g.nm f.nm = true) (hb : ∀ g, L[k]? = some g → K.lt g.nm f.nm = false) : K.with L f = L.take k ++ [f] ++ L.drop k := by
  obtain ⟨h1, h2⟩ := K.while_at (fun g => K.lt g.nm f.nm) L k hk ha hb
  unfold K.with
  rw [h1, h2]
  simp

theorem K.without_same {L : List Pf} {k : Nat} {f : Pf} {s : ByteArray} (hf : L[k]? = some f) (h : f.nm = s) : K.without (L.take (k + 1)) s = K.without (L.take k) s := by
  obtain ⟨hk, rfl⟩ := List.getElem?_eq_some_iff.1 hf
  unfold K.without
  rw [List.take_succ_eq_append_getElem hk, List.filter_append]
  simp [h]
theorem K.without_other {L : List Pf} {k : Nat} {f : Pf} {s : ByteArray} (hf : L[k]? = some f) (h : ¬ f.nm = s) : K.without (L.take (k + 1)) s = K.without (L.take k) s ++ [f] := by
  obtain ⟨hk, rfl⟩ := List.getElem?_eq_some_iff.1 hf
  unfold K.without
  rw [List.take_succ_eq_append_getElem hk, List.filter_append]
  simp [h]
theorem K.without_len (L : List Pf) (s : ByteArray) : (K.without L s).length ≤ L.length := List.length_filter_le _ _
theorem K.with_len (L : List Pf) (f : Pf) : (K.with L f).length = L.length + 1 := by
  have := congrArg List.length (List.takeWhile_append_dropWhile (p := fun g : Pf => K.lt g.nm f.nm) (l := L))
  simp only [List.length_append] at this
  simp only [K.with, List.length_append, List.length_cons]
  omega
end Go.Proofs.Ytnhhmohicjgpgaa
