/-
  The chapter's example holds: the contract of the statements' own 'awake' (token).
-/
import Derived.Test.YtpmbgbahoinelaaEx5
namespace Go.Proofs.Ytpmbgbahoinelaa
open Go.RowKit

set_option maxRecDepth 1000000 in
set_option maxHeartbeats 1000000 in
theorem awake5_any (w : World) : Calls Try.prog 10 #[] w fun e w' => e = .returned (.bool true) ∧ Below w.heap.size w w' := by
  go_enter Try.func10, Try.ntmps10
  go_wp2_with fail
  refine (words_any _ _ _ _ ex_words).mono ?_
  rintro e w1 ⟨v1, rfl, G1, B1⟩
  obtain ⟨a1, c1, rfl, -⟩ := id G1
  go_wp2_with fail
  refine (card_b _ _ _ _ _ _ _ _ ex_card).mono ?_
  rintro e w2 ⟨v2, rfl, G2, hb2⟩
  have B2 := below_trans' B1 hb2
  have G1 := G1.below hb2
  obtain ⟨a2, c2, rfl, -⟩ := id G2
  clear hb2 B1
  obtain ⟨W, hW⟩ : ∃ W, W = w2.alloc (.cells #[.string ⟨#[120]⟩, .int .i64 7, .slice a2 1 c2] 30) := ⟨_, rfl⟩
  have hb3 : Below w2.heap.size w2 W := by rw [hW]; exact below_alloc _ _
  have d0 : W.cell? ⟨w2.heap.size, 0, none⟩ = some (.string ⟨#[120]⟩) := by rw [hW]; simp [go_sem]
  have d1 : W.cell? ⟨w2.heap.size, 1, none⟩ = some (.int .i64 7) := by rw [hW]; simp [go_sem]
  have d2 : W.cell? ⟨w2.heap.size, 2, none⟩ = some (.slice a2 1 c2) := by rw [hW]; simp [go_sem]
  have B3 := below_trans' B2 hb3
  have hZ : W.heap.size = w2.heap.size + 1 := by rw [hW]; simp
  have L3 := ex_three W
  rw [hZ] at L3
  clear hZ
  have G1 := G1.below hb3
  have G2 := G2.below hb3
  have HW := hide hW
  clear hW hb3 B2
  go_wp2_with fail
  rw [← unhide HW]
  refine (texts_any _ _ [⟨#[97]⟩, ⟨#[98, 99]⟩, ⟨#[49]⟩] _ (G1.below (below_alloc _ _)) L3).mono ?_
  rintro e w4 ⟨rfl, hb4⟩
  have hb4 := below_trans' (below_alloc W _) hb4
  have B4 := below_trans' B3 hb4
  have G2 := G2.below hb4
  have d0 := cell_keep d0 hb4
  have d1 := cell_keep d1 hb4
  have d2 := cell_keep d2 hb4
  clear hb4 B3 G1 HW L3
  go_wp2_with fail
  refine (term_any _ _ true ex_term).mono ?_
  rintro e w5 ⟨rfl, hb5⟩
  have B5 := below_trans' B4 hb5
  have G2 := G2.below hb5
  have d0 := cell_keep d0 hb5
  have d1 := cell_keep d1 hb5
  have d2 := cell_keep d2 hb5
  clear hb5 B4
  go_wp2_with fail
  refine (term_any _ _ false ex_noterm).mono ?_
  rintro e w6 ⟨rfl, hb6⟩
  have B6 := below_trans' B5 hb6
  have G2 := G2.below hb6
  have d0 := cell_keep d0 hb6
  have d1 := cell_keep d1 hb6
  have d2 := cell_keep d2 hb6
  clear hb6 B5
  go_wp2_with fail
  refine (valid_any _ _ true ex_valid).mono ?_
  rintro e w7 ⟨rfl, hb7⟩
  have B7 := below_trans' B6 hb7
  have G2 := G2.below hb7
  have d0 := cell_keep d0 hb7
  have d1 := cell_keep d1 hb7
  have d2 := cell_keep d2 hb7
  clear hb7 B6
  go_wp2_with fail
  refine (valid_any _ _ false ex_novalid).mono ?_
  rintro e w8 ⟨rfl, hb8⟩
  have B8 := below_trans' B7 hb8
  have G2 := G2.below hb8
  have d0 := cell_keep d0 hb8
  have d1 := cell_keep d1 hb8
  have d2 := cell_keep d2 hb8
  clear hb8 B7
  go_wp2_with fail
  refine (samec_any ⟨#[120]⟩ 7 _ _ [⟨#[98]⟩] _ (G2.below (below_alloc _ _)) (ex_one w8)).mono ?_
  rintro e w9 ⟨rfl, hb9⟩
  have B9 := below_trans' (below_all B8 _) hb9
  clear hb9 B8 G2 d0 d1 d2
  go_wp2
  go_ret
  exact ⟨rfl, B9⟩
end Go.Proofs.Ytpmbgbahoinelaa
