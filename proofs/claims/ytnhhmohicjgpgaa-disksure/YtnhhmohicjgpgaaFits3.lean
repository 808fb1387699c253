/-
  What is done leaves nothing too great for the walks.
-/
import Derived.Test.YtnhhmohicjgpgaaPlainLaw3
import Derived.Test.YtnhhmohicjgpgaaMay
namespace Go.Proofs.Ytnhhmohicjgpgaa
open Go.RowKit

theorem K.deed_files {kind cap : Int} {L M : List Pf} {A B : ByteArray} {z : List Int} (h : K.doing kind cap L A B z = (M, 0)) : ∀ f ∈ M, (f.da = z ∨ ∃ g ∈ L, f.da = g.da) ∧ (f.nm = A ∨ f.nm = B ∨ ∃ g ∈ L, f.nm = g.nm) := by
  unfold K.doing at h
  split at h
  · split at h
    · rename_i hc hd
      simp only [Prod.mk.injEq, and_true] at h
      subst h
      unfold K.deed at hd ⊢
      intro f hf
      split at hf
      · unfold K.write at hf
        split at hf
        · simp at hf
        · split at hf
          · simp at hf
          · rcases K.mem_with.1 hf with rfl | hf
            · exact ⟨.inl rfl, .inl rfl⟩
            · exact ⟨.inr ⟨f, hf, rfl⟩, .inr (.inr ⟨f, hf, rfl⟩)⟩
      · split at hf
        · unfold K.sync at hf
          split at hf
          · simp at hf
          · rename_i g hg
            obtain ⟨hgm, -⟩ := K.get_some (L := L) (s := A) hg
            rcases K.mem_with.1 hf with rfl | hf
            · exact ⟨.inr ⟨g, hgm, rfl⟩, .inr (.inr ⟨g, hgm, rfl⟩)⟩
            · exact ⟨.inr ⟨f, (K.mem_without.1 hf).1, rfl⟩, .inr (.inr ⟨f, (K.mem_without.1 hf).1, rfl⟩)⟩
        · split at hf
          · unfold K.rename at hf
            split at hf
            · split at hf
              · simp at hf
              · rename_i g hg
                obtain ⟨hgm, -⟩ := K.get_some (L := L) (s := A) hg
                rcases K.mem_with.1 hf with rfl | hf
                · exact ⟨.inr ⟨g, hgm, rfl⟩, .inr (.inl rfl)⟩
                · have := (K.mem_without.1 (K.mem_without.1 hf).1).1
                  exact ⟨.inr ⟨f, this, rfl⟩, .inr (.inr ⟨f, this, rfl⟩)⟩
            · simp at hf
          · unfold K.drop at hf
            split at hf
            · simp at hf
            · exact ⟨.inr ⟨f, (K.mem_without.1 hf).1, rfl⟩, .inr (.inr ⟨f, (K.mem_without.1 hf).1, rfl⟩)⟩
    · rename_i hd
      simp only [Prod.mk.injEq] at h
      exact absurd h.2 hd
  · simp at h

theorem done_fits {kind cap : Int} {L M : List Pf} {A B : ByteArray} {z : List Int} (h : K.doing kind cap L A B z = (M, 0)) (hf : Fits L) (hz : z.length ≤ 1000) (hAB : A.size ≤ 1000 ∧ B.size ≤ 1000) : Fits M := by
  refine ⟨by have := K.may_len (K.do_ok h).can; omega, fun f hfm => ?_⟩
  obtain ⟨h1, h2⟩ := K.deed_files h f hfm
  constructor
  · rcases h1 with h1 | ⟨g, hg, h1⟩
    · rw [h1]; exact hz
    · rw [h1]; exact (hf.2 g hg).1
  · rcases h2 with h2 | h2 | ⟨g, hg, h2⟩
    · rw [h2]; exact hAB.1
    · rw [h2]; exact hAB.2
    · rw [h2]; exact (hf.2 g hg).2
end Go.Proofs.Ytnhhmohicjgpgaa
