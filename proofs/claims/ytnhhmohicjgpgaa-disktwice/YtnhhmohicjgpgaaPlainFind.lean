/-
  Where a name stands: first and last place are one where names rise. No program is named here.
-/
import Derived.Test.YtnhhmohicjgpgaaPlainDisk
namespace Go.Proofs.Ytnhhmohicjgpgaa

def K.lastTo (L : List Pf) (s : ByteArray) : Nat → Option Nat
  | 0 => none
  | k + 1 => match L[k]? with
    | some f => if f.nm = s then some k else K.lastTo L s k
    | none => K.lastTo L s k
/-- The place of the file of that name. -/
def K.find (L : List Pf) (s : ByteArray) : Option Nat := L.findIdx? (fun f => decide (f.nm = s))
def K.at (L : List Pf) (s : ByteArray) : Int := match K.find L s with
  | some i => i
  | none => -1

theorem K.lastTo_same {L : List Pf} {k : Nat} {f : Pf} (h : L[k]? = some f) : K.lastTo L f.nm (k + 1) = some k := by simp [K.lastTo, h]
theorem K.lastTo_other {L : List Pf} {k : Nat} {f : Pf} {s : ByteArray} (h : L[k]? = some f) (hs : f.nm ≠ s) : K.lastTo L s (k + 1) = K.lastTo L s k := by simp [K.lastTo, h, hs]

theorem K.lastTo_none {L : List Pf} {s : ByteArray} : ∀ {k : Nat}, K.lastTo L s k = none ↔ ∀ i f, i < k → L[i]? = some f → f.nm ≠ s
  | 0 => by simp [K.lastTo]
  | k + 1 => by
    rw [K.lastTo]
    constructor
    · intro h i f hi hf
      rcases Nat.lt_or_ge i k with h1 | h1
      · split at h
        · split at h
          · cases h
          · exact K.lastTo_none.1 h i f h1 hf
        · exact K.lastTo_none.1 h i f h1 hf
      · have : i = k := by omega
        subst this
        rw [hf] at h
        simp only at h
        split at h
        · cases h
        · assumption
    · intro h
      split
      · rename_i f hf
        rw [if_neg (h k f (Nat.lt_succ_self k) hf)]
        exact K.lastTo_none.2 fun i g hi hg => h i g (by omega) hg
      · exact K.lastTo_none.2 fun i g hi hg => h i g (by omega) hg

theorem K.lastTo_some {L : List Pf} {s : ByteArray} : ∀ {k j : Nat}, K.lastTo L s k = some j → j < k ∧ ∃ f, L[j]? = some f ∧ f.nm = s
  | 0, j, h => by simp [K.lastTo] at h
  | k + 1, j, h => by
    rw [K.lastTo] at h
    split at h
    · rename_i f hf
      split at h
      · cases h
        exact ⟨Nat.lt_succ_self _, f, hf, by assumption⟩
      · obtain ⟨h1, h2⟩ := K.lastTo_some h
        exact ⟨by omega, h2⟩
    · obtain ⟨h1, h2⟩ := K.lastTo_some h
      exact ⟨by omega, h2⟩

/-- Each name above the one ahead. -/
def K.Up (L : List Pf) : Prop := L.Pairwise fun f g => K.lt f.nm g.nm = true

theorem K.ord_next {L : List Pf} (h : K.ord L = true) {i : Nat} {f g : Pf} (hf : L[i]? = some f) (hg : L[i + 1]? = some g) : K.lt f.nm g.nm = true := by
  unfold K.ord K.ordTo at h
  rw [List.all_eq_true] at h
  have := h (i + 1) (by simp; exact (List.getElem?_eq_some_iff.1 hg).1)
  rw [K.okAt_succ hg hf] at this
  simp at this
  exact this.2

theorem K.ord_name {L : List Pf} (h : K.ord L = true) {f : Pf} (hf : f ∈ L) : K.name f.nm = true := by
  obtain ⟨i, hi, rfl⟩ := List.getElem_of_mem hf
  unfold K.ord K.ordTo at h
  rw [List.all_eq_true] at h
  have := h i (by simpa using hi)
  simp [K.okAt, List.getElem?_eq_getElem hi] at this
  exact this.1

theorem K.ord_lt {L : List Pf} (h : K.ord L = true) {i : Nat} : ∀ {j : Nat} {f g : Pf}, i < j → L[i]? = some f → L[j]? = some g → K.lt f.nm g.nm = true
  | 0, _, _, hij, _, _ => by omega
  | j + 1, f, g, hij, hf, hg => by
    rcases Nat.lt_or_ge i j with h1 | h1
    · have hj : j < L.length := by have := (List.getElem?_eq_some_iff.1 hg).1; omega
      exact K.lt_trans (K.ord_lt h h1 hf (List.getElem?_eq_getElem hj)) (K.ord_next h (List.getElem?_eq_getElem hj) hg)
    · have : i = j := by omega
      subst this
      exact K.ord_next h hf hg

theorem K.ord_up {L : List Pf} (h : K.ord L = true) : K.Up L := by
  unfold K.Up
  rw [List.pairwise_iff_getElem]
  intro i j hi hj hij
  exact K.ord_lt h hij (List.getElem?_eq_getElem hi) (List.getElem?_eq_getElem hj)

theorem K.ord_of {L : List Pf} (h : K.Up L) (hn : ∀ f ∈ L, K.name f.nm = true) : K.ord L = true := by
  unfold K.ord K.ordTo
  rw [List.all_eq_true]
  intro i hi
  simp at hi
  have hfn := hn _ (List.getElem_mem hi)
  cases i with
  | zero => rw [K.okAt_zero (List.getElem?_eq_getElem hi)]; exact hfn
  | succ j =>
    rw [K.okAt_succ (List.getElem?_eq_getElem hi) (List.getElem?_eq_getElem (by omega)), hfn]
    unfold K.Up at h
    rw [List.pairwise_iff_getElem] at h
    simpa using h j (j + 1) (by omega) hi (Nat.lt_succ_self _)

theorem K.ord_iff {L : List Pf} : K.ord L = true ↔ K.Up L ∧ ∀ f ∈ L, K.name f.nm = true :=
  ⟨fun h => ⟨K.ord_up h, fun _ hf => K.ord_name h hf⟩, fun h => K.ord_of h.1 h.2⟩

/-- Where names rise one name has one place. -/
theorem K.up_one {L : List Pf} (h : K.Up L) {i j : Nat} {f g : Pf} (hf : L[i]? = some f) (hg : L[j]? = some g) (e : f.nm = g.nm) : i = j := by
  unfold K.Up at h
  rw [List.pairwise_iff_getElem] at h
  obtain ⟨hi, rfl⟩ := List.getElem?_eq_some_iff.1 hf
  obtain ⟨hj, rfl⟩ := List.getElem?_eq_some_iff.1 hg
  rcases Nat.lt_trichotomy i j with h1 | h1 | h1
  · exact absurd e (K.lt_ne (h i j hi hj h1))
  · exact h1
  · exact absurd e.symm (K.lt_ne (h j i hj hi h1))

theorem K.find_some {L : List Pf} {s : ByteArray} {i : Nat} (h : K.find L s = some i) : ∃ f, L[i]? = some f ∧ f.nm = s := by
  unfold K.find at h
  rw [List.findIdx?_eq_some_iff_getElem] at h
  obtain ⟨hi, h1, _⟩ := h
  exact ⟨_, List.getElem?_eq_getElem hi, by simpa using h1⟩

theorem K.find_none {L : List Pf} {s : ByteArray} : K.find L s = none ↔ ∀ f ∈ L, f.nm ≠ s := by
  unfold K.find
  rw [List.findIdx?_eq_none_iff]
  simp

theorem K.find_of_up {L : List Pf} (hu : K.Up L) {i : Nat} {f : Pf} (hf : L[i]? = some f) : K.find L f.nm = some i := by
  cases h : K.find L f.nm with
  | none => exact absurd rfl (K.find_none.1 h f (List.mem_of_getElem? hf))
  | some j =>
    obtain ⟨g, hg, he⟩ := K.find_some h
    rw [K.up_one hu hg hf he]

theorem K.last_find {L : List Pf} (hu : K.Up L) (s : ByteArray) : K.lastTo L s L.length = K.find L s := by
  cases h : K.lastTo L s L.length with
  | none =>
    symm
    rw [K.find_none]
    intro f hf
    obtain ⟨i, hi, rfl⟩ := List.getElem_of_mem hf
    exact K.lastTo_none.1 h i _ hi (List.getElem?_eq_getElem hi)
  | some j =>
    obtain ⟨_, f, hf, rfl⟩ := K.lastTo_some h
    exact (K.find_of_up hu hf).symm

theorem K.find_lt {L : List Pf} {s : ByteArray} {i : Nat} (h : K.find L s = some i) : i < L.length := by
  obtain ⟨f, hf, _⟩ := K.find_some h
  exact (List.getElem?_eq_some_iff.1 hf).1

theorem K.may_ord {cap : Int} {L : List Pf} (h : K.may cap L = true) : K.ord L = true := by simp [K.may] at h; exact h.1.2
theorem K.may_up {cap : Int} {L : List Pf} (h : K.may cap L = true) : K.Up L := K.ord_up (K.may_ord h)
theorem K.may_len {cap : Int} {L : List Pf} (h : K.may cap L = true) : L.length ≤ 64 := by simp [K.may] at h; exact h.1.1.2
theorem K.may_sum {cap : Int} {L : List Pf} (h : K.may cap L = true) : (K.sum L : Int) ≤ cap := by simp [K.may] at h; exact h.2
theorem K.may_cap {cap : Int} {L : List Pf} (h : K.may cap L = true) : 0 ≤ cap ∧ cap ≤ 1048576 := by simp [K.may] at h; exact h.1.1.1
theorem K.may_of {cap : Int} {L : List Pf} (h0 : 0 ≤ cap) (h1 : cap ≤ 1048576) (h2 : L.length ≤ 64) (h3 : K.ord L = true) (h4 : (K.sum L : Int) ≤ cap) : K.may cap L = true := by simp [K.may, h0, h1, h2, h3, h4]

theorem K.find_first {L : List Pf} {s : ByteArray} {k : Nat} {f : Pf} (hf : L[k]? = some f) (hs : f.nm = s) (h : ∀ j g, j < k → L[j]? = some g → g.nm ≠ s) : K.find L s = some k := by
  unfold K.find
  obtain ⟨hk, rfl⟩ := List.getElem?_eq_some_iff.1 hf
  rw [List.findIdx?_eq_some_iff_getElem]
  exact ⟨hk, by simpa using hs, fun j hj => by simpa using h j _ hj (List.getElem?_eq_getElem (by omega))⟩

/-- Its bytes, and how it went. -/
def K.read (cap : Int) (L : List Pf) (s : ByteArray) : List Int × Int :=
  if K.may cap L = true then match K.find L s with
    | some i => (match L[i]? with | some f => f.da | none => [], 0)
    | none => ([], 2)
  else ([], 1)
end Go.Proofs.Ytnhhmohicjgpgaa
