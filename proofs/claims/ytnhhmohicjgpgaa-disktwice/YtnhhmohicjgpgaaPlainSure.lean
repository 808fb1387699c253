/-
  What a crash leaves may be; what is sure stays; what is not is a beginning, or gone. No program is named here.
-/
import Derived.Test.YtnhhmohicjgpgaaFits3
namespace Go.Proofs.Ytnhhmohicjgpgaa

/-- What one file may become. -/
def K.Left (f g : Pf) : Prop := g.su = true ∧ g.nm = f.nm ∧ (f.su = true → g = f) ∧ ∃ p : Nat, g.da = f.da.take p

theorem K.left_sure {f : Pf} (h : f.su = true) : K.Left f f := ⟨h, rfl, fun _ => rfl, f.da.length, by simp⟩
theorem K.left_cut {f : Pf} (h : f.su = false) (p : Nat) : K.Left f ⟨f.nm, f.da.take p, true⟩ := ⟨rfl, rfl, fun e => (by rw [h] at e; cases e), p, rfl⟩
theorem K.left_len {f g : Pf} (h : K.Left f g) : g.da.length ≤ f.da.length := by
  obtain ⟨p, hp⟩ := h.2.2.2
  rw [hp]
  simp
  omega

/-- Behind k files: all that is left comes of the first k, in their order; what is sure among them is there. -/
structure K.CrInv (L : List Pf) (k : Nat) (R : List Pf) : Prop where
  from_ : ∀ g ∈ R, ∃ i f, i < k ∧ L[i]? = some f ∧ K.Left f g
  up : K.Up R
  sum : K.sum R ≤ K.sum (L.take k)
  sure : ∀ i f, i < k → L[i]? = some f → f.su = true → f ∈ R

theorem K.cr_inv {L : List Pf} (hu : K.Up L) (ps : List Int) : ∀ k, k ≤ L.length → K.CrInv L k (K.crTo L ps k).1
  | 0, _ => ⟨fun g hg => by simp [K.crTo] at hg, by simp [K.crTo, K.Up], by simp [K.crTo, K.sum], fun i f hi => by omega⟩
  | k + 1, hk => by
    have ih := K.cr_inv hu ps k (by omega)
    obtain ⟨f, hf⟩ : ∃ f, L[k]? = some f := ⟨L[k], List.getElem?_eq_getElem (by omega)⟩
    have hst := K.sum_take L k f hf
    have hsn : ∀ g, K.Left f g → K.CrInv L (k + 1) ((K.crTo L ps k).1 ++ [g]) := fun g hg => by
      refine ⟨fun x hx => ?_, ?_, ?_, fun i x hi hx hs => ?_⟩
      · rcases List.mem_append.1 hx with hx | hx
        · obtain ⟨i, y, hi, hy, hl⟩ := ih.from_ x hx
          exact ⟨i, y, by omega, hy, hl⟩
        · simp at hx
          subst hx
          exact ⟨k, f, by omega, hf, hg⟩
      · unfold K.Up
        rw [List.pairwise_append]
        refine ⟨ih.up, by simp, fun x hx y hy => ?_⟩
        simp at hy
        subst hy
        obtain ⟨i, u, hi, hu', hl⟩ := ih.from_ x hx
        rw [hl.2.1, hg.2.1]
        unfold K.Up at hu
        rw [List.pairwise_iff_getElem] at hu
        obtain ⟨h1, rfl⟩ := List.getElem?_eq_some_iff.1 hu'
        obtain ⟨h2, rfl⟩ := List.getElem?_eq_some_iff.1 hf
        exact hu i k h1 h2 hi
      · rw [K.sum_append, hst]
        have := K.left_len hg
        have := ih.sum
        simp only [K.sum]
        omega
      · rcases Nat.lt_or_ge i k with h1 | h1
        · exact List.mem_append_left _ (ih.sure i x h1 hx hs)
        · have : i = k := by omega
          subst this
          rw [hf] at hx
          cases hx
          rw [hg.2.2.1 hs]
          simp
    have hno : f.su = false → K.CrInv L (k + 1) (K.crTo L ps k).1 := fun hs => by
      refine ⟨fun x hx => ?_, ih.up, by have := ih.sum; omega, fun i x hi hx hxs => ?_⟩
      · obtain ⟨i, y, hi, hy, hl⟩ := ih.from_ x hx
        exact ⟨i, y, by omega, hy, hl⟩
      · rcases Nat.lt_or_ge i k with h1 | h1
        · exact ih.sure i x h1 hx hxs
        · have : i = k := by omega
          subst this
          rw [hf] at hx
          cases hx
          rw [hs] at hxs
          cases hxs
    cases hs : f.su with
    | true => rw [K.cr_sure hf hs]; exact hsn f (K.left_sure hs)
    | false =>
      cases hp : ps[(K.crTo L ps k).2]? with
      | none => rw [K.cr_none hf hs hp]; exact hno hs
      | some p =>
        by_cases h0 : p < 0
        · rw [K.cr_neg hf hs hp h0]; exact hno hs
        · rw [K.cr_keep hf hs hp h0]; exact hsn _ (K.left_cut hs p.toNat)

theorem K.crash_inv {L : List Pf} (hu : K.Up L) (ps : List Int) : K.CrInv L L.length (K.crash L ps) := K.cr_inv hu ps L.length (Nat.le_refl _)

theorem K.crash_from {L : List Pf} (hu : K.Up L) {ps : List Int} {g : Pf} (h : g ∈ K.crash L ps) : ∃ f ∈ L, K.Left f g := by
  obtain ⟨i, f, _, hf, hl⟩ := (K.crash_inv hu ps).from_ g h
  exact ⟨f, List.mem_of_getElem? hf, hl⟩
theorem K.crash_sure {L : List Pf} (hu : K.Up L) (ps : List Int) {f : Pf} (h : f ∈ L) (hs : f.su = true) : f ∈ K.crash L ps := by
  obtain ⟨i, hi, rfl⟩ := List.getElem_of_mem h
  exact (K.crash_inv hu ps).sure i _ hi (List.getElem?_eq_getElem hi) hs

theorem K.crash_may {cap : Int} {L : List Pf} (h : K.may cap L = true) (ps : List Int) : K.may cap (K.crash L ps) = true := by
  have hi := K.crash_inv (K.may_up h) ps
  have hsum := hi.sum
  rw [List.take_of_length_le (Nat.le_refl _)] at hsum
  refine K.mk_may h ?_ hsum hi.up fun g hg => ?_
  · have := (K.cr_len L ps L.length).1
    have := K.may_len h
    unfold K.crash
    omega
  · obtain ⟨f, hf, hl⟩ := K.crash_from (K.may_up h) hg
    rw [hl.2.1]
    exact K.ord_name (K.may_ord h) hf
theorem K.crash_sum {L : List Pf} (hu : K.Up L) (ps : List Int) : K.sum (K.crash L ps) ≤ K.sum L := by
  have := (K.crash_inv hu ps).sum
  rwa [List.take_of_length_le (Nat.le_refl _)] at this

theorem crash_fits {L : List Pf} (hf : Fits L) (hu : K.Up L) (ps : List Int) : Fits (K.crash L ps) := by
  refine ⟨?_, fun g hg => ?_⟩
  · have := (K.cr_len L ps L.length).1
    have := hf.1
    unfold K.crash
    omega
  · obtain ⟨f, hfm, hl⟩ := K.crash_from hu hg
    have h1 := hf.2 f hfm
    have h2 := K.left_len hl
    rw [hl.2.1]
    omega

/-- Where all is sure a crash changes nothing. -/
theorem K.crash_all {L : List Pf} (h : ∀ f ∈ L, f.su = true) (ps : List Int) : K.crash L ps = L := by
  have : ∀ k, k ≤ L.length → (K.crTo L ps k).1 = L.take k := by
    intro k
    induction k with
    | zero => intro _; simp [K.crTo]
    | succ k ih =>
      intro hk
      have hf : L[k]? = some L[k] := List.getElem?_eq_getElem (by omega)
      rw [K.cr_sure hf (h _ (List.getElem_mem _)), ih (by omega), List.take_succ_eq_append_getElem (by omega)]
  unfold K.crash
  rw [this _ (Nat.le_refl _), List.take_of_length_le (Nat.le_refl _)]

/-- A file that was written, and perhaps made sure, by the name that it has then, behind a crash. -/
theorem K.sure_read {cap : Int} {L : List Pf} {ps : List Int} {f : Pf} (hm : K.may cap L = true) (hf : f ∈ L) :
    (f.su = true → K.read cap (K.crash L ps) f.nm = (f.da, 0)) ∧ (K.read cap (K.crash L ps) f.nm = ([], 2) ∨ ∃ p : Nat, K.read cap (K.crash L ps) f.nm = (f.da.take p, 0)) := by
  have hu := K.may_up hm
  have hc := K.crash_may hm ps
  have huc := K.may_up hc
  constructor
  · intro hs
    rw [K.read_get hc, K.get_of huc (K.crash_sure hu ps hf hs)]
  · rw [K.read_get hc]
    cases hg : K.get (K.crash L ps) f.nm with
    | none => exact .inl rfl
    | some g =>
      right
      obtain ⟨h1, h2⟩ := K.get_some hg
      obtain ⟨f', hf', hl⟩ := K.crash_from hu h1
      have he : f' = f := by
        have e1 := K.get_of hu hf'
        have e2 := K.get_of hu hf
        rw [← hl.2.1, h2, e2] at e1
        exact (Option.some.inj e1).symm
      subst he
      obtain ⟨p, hp⟩ := hl.2.2.2
      exact ⟨p, by simp [hp]⟩

theorem K.do_write_ok {cap : Int} {L M : List Pf} {A B : ByteArray} {z : List Int} (h : K.doing 0 cap L A B z = (M, 0)) : (⟨A, z, false⟩ : Pf) ∈ M ∧ K.may cap M = true ∧ K.name A = true := by
  have hd := K.do_ok h
  unfold K.doing at h
  split at h
  · rename_i hc
    have hA := (K.name_of_can hc).2.1
    split at h
    · rename_i h0
      simp only [Prod.mk.injEq, and_true] at h
      refine ⟨?_, hd.can, hA⟩
      subst h
      simp only [K.deed, if_true] at h0 ⊢
      unfold K.write at h0 ⊢
      split at h0
      · simp at h0
      · split at h0
        · simp at h0
        · rename_i hr
          rw [if_neg hr]
          exact K.mem_with.2 (.inl rfl)
    · rename_i h0
      simp only [Prod.mk.injEq] at h
      exact absurd h.2 h0
  · simp at h

theorem K.can_of {kind cap : Int} {L : List Pf} {A : ByteArray} (hm : K.may cap L = true) (hA : K.name A = true) (h0 : 0 ≤ kind) (h4 : kind < 4) : K.can kind cap L A = true := by simp [K.can, hm, hA, h0, h4]

theorem K.do_sync_ok {cap : Int} {L : List Pf} {f : Pf} {B : ByteArray} {z : List Int} (hm : K.may cap L = true) (hf : f ∈ L) (hA : K.name f.nm = true) :
    ∃ M, K.doing 1 cap L f.nm B z = (M, 0) ∧ (⟨f.nm, f.da, true⟩ : Pf) ∈ M := by
  have hg : ((K.find L f.nm).bind fun i => L[i]?) = some f := K.get_of (K.may_up hm) hf
  have hc := K.can_of (kind := 1) hm hA (by omega) (by omega)
  have hd : K.deed 1 cap L f.nm B z = (K.with (K.without L f.nm) ⟨f.nm, f.da, true⟩, 0) := by simp [K.deed, K.sync, hg]
  refine ⟨K.with (K.without L f.nm) ⟨f.nm, f.da, true⟩, ?_, K.mem_with.2 (.inl rfl)⟩
  unfold K.doing
  rw [if_pos hc, hd]
  simp

theorem K.do_rename_ok {cap : Int} {L M : List Pf} {f : Pf} {B : ByteArray} {z : List Int} {r : Int} (hm : K.may cap L = true) (hf : f ∈ L) (hA : K.name f.nm = true) (h : K.doing 2 cap L f.nm B z = (M, r)) :
    (r = 1 ∧ M = L) ∨ (r = 0 ∧ (⟨B, f.da, f.su⟩ : Pf) ∈ M ∧ K.may cap M = true) := by
  have hg : ((K.find L f.nm).bind fun i => L[i]?) = some f := K.get_of (K.may_up hm) hf
  have hc := K.can_of (kind := 2) hm hA (by omega) (by omega)
  cases hB : K.name B with
  | false =>
    have hd : K.deed 2 cap L f.nm B z = ([], 1) := by simp [K.deed, K.rename, hB]
    unfold K.doing at h
    rw [if_pos hc, hd] at h
    simp at h
    exact .inl ⟨h.2.symm, h.1.symm⟩
  | true =>
    have hd : K.deed 2 cap L f.nm B z = (K.with (K.without (K.without L f.nm) B) ⟨B, f.da, f.su⟩, 0) := by simp [K.deed, K.rename, hB, hg]
    have h' := h
    unfold K.doing at h
    rw [if_pos hc, hd] at h
    simp at h
    obtain ⟨h1, h2⟩ := h
    subst h2
    refine .inr ⟨rfl, ?_, (K.do_ok h').can⟩
    rw [← h1]
    exact K.mem_with.2 (.inl rfl)
end Go.Proofs.Ytnhhmohicjgpgaa
