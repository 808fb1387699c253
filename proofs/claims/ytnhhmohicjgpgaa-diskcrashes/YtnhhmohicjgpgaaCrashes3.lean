/-
  What a crash leaves of any disk is what the document says: the walk of DiskCrashes.
-/
import Derived.Test.YtnhhmohicjgpgaaLawB
namespace Go.Proofs.Ytnhhmohicjgpgaa
open Go.RowKit

set_option maxHeartbeats 4000000 in
theorem diskCrashes_walk (cap : Int) (v pv : Value) (L : List Pf) (ps : List Int) (w : World) (h : Fl w v L) (hp : Sl .i64 w pv ps) :
    Calls Try.prog 5 #[.agg #[.int .i64 cap, v], pv] w fun e w' => e = .returned (.bool true) ∧ Below w.heap.size w w' := by
  obtain ⟨a, sc, rfl, hl, hm, hna, -⟩ := h.open
  obtain ⟨pa, pc, rfl, -⟩ := id hp
  have hpl := hp.len
  obtain ⟨W, hW⟩ : ∃ W, W = w.alloc (.cells #[.int .i64 cap, .slice a L.length sc] 24) := ⟨_, rfl⟩
  have B0 : Below w.heap.size w W := by rw [hW]; exact below_alloc _ _
  have c0 : W.cell? ⟨w.heap.size, 0, none⟩ = some (.int .i64 cap) := by rw [hW]; simp
  have c1 : W.cell? ⟨w.heap.size, 1, none⟩ = some (.slice a L.length sc) := by rw [hW]; simp
  have H := h.below B0
  have S := hp.below B0
  have HW := hide hW
  clear hW h hp
  cases hfew : K.few L with
  | false =>
    go_enter Try.func5, Try.ntmps5
    go_wp2_with fail
    rw [← unhide HW]
    refine (awake3_any _).mono ?_
    rintro e w1 ⟨rfl, B1⟩
    have c0 := cell_keep c0 B1
    have c1 := cell_keep c1 B1
    have H := H.below B1
    have S := S.below B1
    have BB := below_trans' B0 B1
    go_wp2_with fail
    refine (few_b _ _ _ _ H _ hfew).mono ?_
    rintro e w2 ⟨rfl, B2⟩
    have c0 := cell_keep c0 B2
    have c1 := cell_keep c1 B2
    have H := H.below B2
    have S := S.below B2
    have BB := below_trans' BB B2
    go_wp2
    go_ret
    exact ⟨rfl, BB⟩
  | true =>
    have hf := K.few_fits hfew
    by_cases h100 : 100 < ps.length
    · have h100' : decide (100 < (ps.length : Int)) = true := by simp; omega
      go_enter Try.func5, Try.ntmps5
      go_wp2_with fail
      rw [← unhide HW]
      refine (awake3_any _).mono ?_
      rintro e w1 ⟨rfl, B1⟩
      have c0 := cell_keep c0 B1
      have c1 := cell_keep c1 B1
      have H := H.below B1
      have S := S.below B1
      have BB := below_trans' B0 B1
      go_wp2_with fail
      refine (few_b _ _ _ _ H _ hfew).mono ?_
      rintro e w2 ⟨rfl, B2⟩
      have c0 := cell_keep c0 B2
      have c1 := cell_keep c1 B2
      have H := H.below B2
      have S := S.below B2
      have BB := below_trans' BB B2
      go_wp2
      go_ret
      exact ⟨rfl, BB⟩
    · have h100' : decide (100 < (ps.length : Int)) = false := by simp; omega
      obtain ⟨M, hM⟩ : ∃ M, (if K.may cap L = true then K.crash L ps else L) = M := ⟨_, rfl⟩
      have HM := hide hM
      clear hM
      go_enter Try.func5, Try.ntmps5
      go_wp2_with fail
      rw [← unhide HW]
      refine (awake3_any _).mono ?_
      rintro e w1 ⟨rfl, B1⟩
      have c0 := cell_keep c0 B1
      have c1 := cell_keep c1 B1
      have H := H.below B1
      have S := S.below B1
      have BB := below_trans' B0 B1
      go_wp2_with fail
      refine (few_b _ _ _ _ H _ hfew).mono ?_
      rintro e w2 ⟨rfl, B2⟩
      have c0 := cell_keep c0 B2
      have c1 := cell_keep c1 B2
      have H := H.below B2
      have S := S.below B2
      have BB := below_trans' BB B2
      have BW : Below w2.heap.size w2 w2 := Below.refl _ _
      go_wp2
      go_region_held3 (fun w' => w'.cell? ⟨w.heap.size, 0, none⟩ = some (.int .i64 cap) ∧ w'.cell? ⟨w.heap.size, 1, none⟩ = some (.slice a L.length sc) ∧ Below w2.heap.size w2 w')
        (first
          | (go_split_ands; exact ⟨c0, c1, BW.drew⟩)
          | (go_split_ands; exact ⟨cell_keep (by assumption) B5, cell_keep (by assumption) B5, below_trans' (by assumption) B5⟩)
          | (go_split_ands; exact ⟨cell_keep (by assumption) B6, cell_keep (by assumption) B6, below_trans' (by assumption) B6⟩)
          | (go_split_ands; exact ⟨cell_keep (by assumption) B7, cell_keep (by assumption) B7, below_trans' (by assumption) B7⟩))
        (first
          | (go_at_call 27; go_split_ands; refine (crash_b _ _ _ L ps _ (H.below ?_) (S.below ?_) hf _ (unhide HM)).mono ?_; assumption; assumption; rintro e w5 ⟨v5, rfl, F5, B5⟩)
          | (go_at_call 28; go_split_ands; refine (rcrash_b _ _ _ L ps _ (H.below ?_) (S.below ?_) hf _ (unhide HM)).mono ?_; assumption; assumption; rintro e w6 ⟨v6, rfl, F6, B6⟩)
          | (go_at_call 17; go_split_ands; first | (refine (rsame_any cap cap _ _ M M _ (F5.below B6) F6 true (by simp [Pf.eqs_refl])).mono ?_; rintro e w7 ⟨rfl, B7⟩) | (refine (rsame_any cap cap _ _ M M _ F5 (F6.below B5) true (by simp [Pf.eqs_refl])).mono ?_; rintro e w7 ⟨rfl, B7⟩)))
      have BE : Below w.heap.size w w7 := below_trans' BB (below_trans' (below_trans' (below_trans' BW.drew B5) B6) B7)
      go_wp2
      go_ret
      exact ⟨rfl, BE⟩
end Go.Proofs.Ytnhhmohicjgpgaa
