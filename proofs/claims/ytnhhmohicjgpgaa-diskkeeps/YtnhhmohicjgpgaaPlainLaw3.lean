/-
  What follows of the document's disk, over plain lists: what is done leaves a disk that may be; others stay; a crash leaves what is sure. No program is named here.
-/
import Derived.Test.YtnhhmohicjgpgaaPlainCrash
namespace Go.Proofs.Ytnhhmohicjgpgaa

theorem K.with_nil (f : Pf) : K.with [] f = [f] := rfl
theorem K.with_cons (g : Pf) (L : List Pf) (f : Pf) : K.with (g :: L) f = if K.lt g.nm f.nm = true then g :: K.with L f else f :: g :: L := by
  unfold K.with
  by_cases h : K.lt g.nm f.nm = true
  · simp [h]
  · simp [h]

theorem K.mem_with {L : List Pf} {f x : Pf} : x ∈ K.with L f ↔ x = f ∨ x ∈ L := by
  induction L with
  | nil => simp [K.with_nil]
  | cons g L ih =>
    rw [K.with_cons]
    split
    · simp only [List.mem_cons, ih]
      constructor
      · rintro (h | h | h)
        · exact .inr (.inl h)
        · exact .inl h
        · exact .inr (.inr h)
      · rintro (h | h | h)
        · exact .inr (.inl h)
        · exact .inl h
        · exact .inr (.inr h)
    · simp
theorem K.mem_without {L : List Pf} {s : ByteArray} {x : Pf} : x ∈ K.without L s ↔ x ∈ L ∧ x.nm ≠ s := by simp [K.without]

theorem K.sum_with (L : List Pf) (f : Pf) : K.sum (K.with L f) = K.sum L + f.da.length := by
  induction L with
  | nil => simp [K.with_nil, K.sum]
  | cons g L ih =>
    rw [K.with_cons]
    split
    · simp only [K.sum, ih]; omega
    · simp only [K.sum]; omega
theorem K.sum_without_le (L : List Pf) (s : ByteArray) : K.sum (K.without L s) ≤ K.sum L := by
  induction L with
  | nil => simp [K.without, K.sum]
  | cons g L ih =>
    unfold K.without at *
    rw [List.filter_cons]
    split
    · simp only [K.sum]; omega
    · simp only [K.sum]; omega
theorem K.sum_without {L : List Pf} {f : Pf} (h : f ∈ L) : K.sum (K.without L f.nm) + f.da.length ≤ K.sum L ∧ (K.without L f.nm).length + 1 ≤ L.length := by
  induction L with
  | nil => simp at h
  | cons g L ih =>
    have hl := K.sum_without_le L f.nm
    have hn := K.without_len L f.nm
    unfold K.without at *
    rw [List.filter_cons]
    rcases List.mem_cons.1 h with rfl | h
    · rw [if_neg (by simp)]
      simp only [K.sum, List.length_cons]
      omega
    · have i := ih h
      split
      · simp only [K.sum, List.length_cons]; omega
      · simp only [K.sum, List.length_cons]; omega

theorem K.up_without {L : List Pf} (h : K.Up L) (s : ByteArray) : K.Up (K.without L s) := List.Pairwise.filter _ h
theorem K.up_with {L : List Pf} {f : Pf} (h : K.Up L) (hn : ∀ g ∈ L, g.nm ≠ f.nm) : K.Up (K.with L f) := by
  induction L with
  | nil => simp [K.with_nil, K.Up]
  | cons g L ih =>
    unfold K.Up at h
    rw [List.pairwise_cons] at h
    rw [K.with_cons]
    split
    · rename_i hlt
      unfold K.Up
      rw [List.pairwise_cons]
      refine ⟨fun x hx => ?_, ih h.2 (fun x hx => hn x (List.mem_cons_of_mem _ hx))⟩
      rcases K.mem_with.1 hx with rfl | hx
      · exact hlt
      · exact h.1 x hx
    · rename_i hge
      have hfg : K.lt f.nm g.nm = true := by
        cases hx : K.lt f.nm g.nm with
        | true => rfl
        | false => exact absurd (K.lt_tri (by simpa using hge) hx) (hn g (List.mem_cons_self ..))
      unfold K.Up
      rw [List.pairwise_cons, List.pairwise_cons]
      refine ⟨fun x hx => ?_, h.1, h.2⟩
      rcases List.mem_cons.1 hx with rfl | hx
      · exact hfg
      · exact K.lt_trans hfg (h.1 x hx)

/-- The file of that name. -/
def K.get (L : List Pf) (s : ByteArray) : Option Pf := (K.find L s).bind fun i => L[i]?
theorem K.get_some {L : List Pf} {s : ByteArray} {f : Pf} (h : K.get L s = some f) : f ∈ L ∧ f.nm = s := by
  unfold K.get at h
  cases hf : K.find L s with
  | none => rw [hf] at h; simp at h
  | some i =>
    obtain ⟨g, hg, hn⟩ := K.find_some hf
    rw [hf] at h
    simp only [Option.bind_some] at h
    rw [hg] at h
    cases h
    exact ⟨List.mem_of_getElem? hg, hn⟩
theorem K.get_of {L : List Pf} (hu : K.Up L) {f : Pf} (h : f ∈ L) : K.get L f.nm = some f := by
  obtain ⟨i, hi, rfl⟩ := List.getElem_of_mem h
  have hg := List.getElem?_eq_getElem hi
  unfold K.get
  rw [K.find_of_up hu hg]
  exact hg
theorem K.get_none {L : List Pf} {s : ByteArray} (h : ∀ f ∈ L, f.nm ≠ s) : K.get L s = none := by
  unfold K.get
  rw [K.find_none.2 h]
  rfl
theorem K.get_same {L M : List Pf} (hl : K.Up L) (hm : K.Up M) {s : ByteArray} (h : ∀ f, f.nm = s → (f ∈ L ↔ f ∈ M)) : K.get L s = K.get M s := by
  cases hg : K.get L s with
  | some f =>
    obtain ⟨h1, rfl⟩ := K.get_some hg
    exact (K.get_of hm ((h f rfl).1 h1)).symm
  | none =>
    symm
    refine K.get_none fun f hf hn => ?_
    subst hn
    rw [K.get_of hl ((h f rfl).2 hf)] at hg
    cases hg

theorem K.read_get {cap : Int} {L : List Pf} {s : ByteArray} (h : K.may cap L = true) : K.read cap L s = match K.get L s with
    | some f => (f.da, 0)
    | none => ([], 2) := by
  unfold K.read K.get
  rw [if_pos h]
  cases hf : K.find L s with
  | none => rfl
  | some i =>
    obtain ⟨g, hg, -⟩ := K.find_some hf
    simp [hg]

theorem K.name_of_can {kind cap : Int} {L : List Pf} {A : ByteArray} (h : K.can kind cap L A = true) : K.may cap L = true ∧ K.name A = true ∧ 0 ≤ kind ∧ kind < 4 := by
  simp only [K.can, Bool.and_eq_true, decide_eq_true_eq] at h
  exact ⟨h.1.1.1, h.1.1.2, h.1.2, h.2⟩

/-- What is done leaves a disk that may be, of just those files. -/
structure K.Done (kind cap : Int) (L M : List Pf) (A B : ByteArray) : Prop where
  may : K.may cap L = true
  can : K.may cap M = true
  others : ∀ s f, s ≠ A → (kind = 2 → s ≠ B) → f.nm = s → (f ∈ L ↔ f ∈ M)

theorem K.mk_may {cap : Int} {L M : List Pf} (h : K.may cap L = true) (hl : M.length ≤ 64) (hs : K.sum M ≤ K.sum L) (hu : K.Up M) (hn : ∀ f ∈ M, K.name f.nm = true) : K.may cap M = true :=
  K.may_of (K.may_cap h).1 (K.may_cap h).2 hl (K.ord_of hu hn) (by have := K.may_sum h; omega)

theorem K.do_ok {kind cap : Int} {L M : List Pf} {A B : ByteArray} {z : List Int} (h : K.doing kind cap L A B z = (M, 0)) : K.Done kind cap L M A B := by
  unfold K.doing at h
  split at h
  · rename_i hc
    obtain ⟨hmay, hA, hk0, hk4⟩ := K.name_of_can hc
    have hord := K.may_ord hmay
    have hu := K.may_up hmay
    have hL := K.may_len hmay
    split at h
    · rename_i hd
      simp only [Prod.mk.injEq, and_true] at h
      subst h
      unfold K.deed at hd ⊢
      split at hd
      · rename_i hk
        rw [if_pos hk]
        unfold K.write at hd ⊢
        cases hf : K.find L A with
        | some i => rw [hf] at hd; simp at hd
        | none =>
          rw [hf] at hd
          simp only at hd ⊢
          split at hd
          · simp at hd
          · rename_i hr
            rw [if_neg hr]
            have hno := K.find_none.1 hf
            have hup := K.up_with (f := ⟨A, z, false⟩) hu hno
            refine ⟨hmay, K.may_of (K.may_cap hmay).1 (K.may_cap hmay).2 (by rw [K.with_len]; omega) (K.ord_of hup fun f hf => ?_) (by rw [K.sum_with]; simp; omega), fun s f hs _ hn => ?_⟩
            · rcases K.mem_with.1 hf with rfl | hf
              · exact hA
              · exact K.ord_name hord hf
            · rw [K.mem_with]
              refine ⟨.inr, ?_⟩
              rintro (rfl | h)
              · exact absurd hn.symm hs
              · exact h
      · rename_i hk
        rw [if_neg hk]
        split at hd
        · rename_i hk1
          rw [if_pos hk1]
          unfold K.sync at hd ⊢
          cases hg : (K.find L A).bind fun i => L[i]? with
          | none => rw [hg] at hd; simp at hd
          | some f =>
            simp only
            obtain ⟨hfm, rfl⟩ := K.get_some (L := L) (s := A) hg
            have hsw := K.sum_without hfm
            have hup := K.up_with (f := ⟨f.nm, f.da, true⟩) (K.up_without hu f.nm) (fun g hg => (K.mem_without.1 hg).2)
            refine ⟨hmay, K.mk_may hmay (by rw [K.with_len]; omega) (by rw [K.sum_with]; exact hsw.1) hup (fun g hg => ?_), fun s g hs _ hn => ?_⟩
            · rcases K.mem_with.1 hg with rfl | hg
              · exact hA
              · exact K.ord_name hord (K.mem_without.1 hg).1
            · rw [K.mem_with, K.mem_without]
              constructor
              · intro h; exact .inr ⟨h, by rw [hn]; exact hs⟩
              · rintro (rfl | h)
                · exact absurd hn.symm hs
                · exact h.1
        · rename_i hk1
          rw [if_neg hk1]
          split at hd
          · rename_i hk2
            rw [if_pos hk2]
            unfold K.rename at hd ⊢
            split at hd
            · rename_i hB
              rw [if_pos hB]
              cases hg : (K.find L A).bind fun i => L[i]? with
              | none => rw [hg] at hd; simp at hd
              | some f =>
                simp only
                obtain ⟨hfm, rfl⟩ := K.get_some (L := L) (s := A) hg
                have hsw := K.sum_without hfm
                have hs2 := K.sum_without_le (K.without L f.nm) B
                have hl2 := K.without_len (K.without L f.nm) B
                have hup := K.up_with (f := ⟨B, f.da, f.su⟩) (K.up_without (K.up_without hu f.nm) B) (fun g hg => (K.mem_without.1 hg).2)
                refine ⟨hmay, K.mk_may hmay (by rw [K.with_len]; omega) (by rw [K.sum_with]; simp only; omega) hup (fun g hg => ?_), fun s g hs hs' hn => ?_⟩
                · rcases K.mem_with.1 hg with rfl | hg
                  · exact hB
                  · exact K.ord_name hord (K.mem_without.1 (K.mem_without.1 hg).1).1
                · rw [K.mem_with, K.mem_without, K.mem_without]
                  constructor
                  · intro h; exact .inr ⟨⟨h, by rw [hn]; exact hs⟩, by rw [hn]; exact hs' hk2⟩
                  · rintro (rfl | h)
                    · exact absurd hn.symm (hs' hk2)
                    · exact h.1.1
            · simp at hd
          · rename_i hk2
            rw [if_neg hk2]
            unfold K.drop at hd ⊢
            cases hf : K.find L A with
            | none => rw [hf] at hd; simp at hd
            | some i =>
              simp only
              refine ⟨hmay, K.mk_may hmay (Nat.le_trans (K.without_len L A) hL) (K.sum_without_le L A) (K.up_without hu A) (fun g hg => K.ord_name hord (K.mem_without.1 hg).1), fun s g hs _ hn => ?_⟩
              rw [K.mem_without]
              exact ⟨fun h => ⟨h, by rw [hn]; exact hs⟩, fun h => h.1⟩
    · rename_i hd
      simp only [Prod.mk.injEq] at h
      exact absurd h.2 hd
  · simp at h

theorem K.do_bad {kind cap : Int} {L M : List Pf} {A B : ByteArray} {z : List Int} {r : Int} (h : K.doing kind cap L A B z = (M, r)) (hr : ¬ r = 0) : M = L := by
  unfold K.doing at h
  split at h
  · split at h
    · simp only [Prod.mk.injEq] at h
      exact absurd h.2.symm hr
    · simp only [Prod.mk.injEq] at h
      exact h.1.symm
  · simp only [Prod.mk.injEq] at h
    exact h.1.symm
end Go.Proofs.Ytnhhmohicjgpgaa
