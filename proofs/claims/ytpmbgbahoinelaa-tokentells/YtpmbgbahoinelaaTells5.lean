/-
  TokenTells' and TokenCards' walks.
-/
import Derived.Test.YtpmbgbahoinelaaAwake5
namespace Go.Proofs.Ytpmbgbahoinelaa
open Go.RowKit

set_option maxRecDepth 1000000 in
set_option maxHeartbeats 2000000 in
theorem tokenTells_walk (s : ByteArray) (w : World) :
    Calls Try.prog 3 #[.string s] w fun e w' => e = .returned (.bool true) ∧ Below w.heap.size w w' := by
  go_enter Try.func3, Try.ntmps3
  go_wp2_with fail
  refine (awake5_any _).mono ?_
  rintro e w1 ⟨rfl, B1⟩
  by_cases h5 : (500 : Int) < (s.size : Int)
  · go_wp2
    go_ret
    exact ⟨rfl, B1⟩
  · obtain ⟨m, n, hw⟩ : ∃ m n, T.wordsR s = (m, n) := ⟨_, _, rfl⟩
    obtain ⟨r, hr⟩ : ∃ r, T.valid (T.bs s) = r := ⟨_, rfl⟩
    obtain ⟨t, ht⟩ : ∃ t, T.termR s (T.wordsR s) = t := ⟨_, rfl⟩
    have HW := hide hw
    have HR := hide hr
    have HT := hide ht
    have hnn : (n == n) = true := by simp
    have hrr : (r == r) = true := by simp
    have htt : (t == t) = true := by simp
    clear hw hr ht
    go_wp2_with fail
    refine (words_any s _ m n (unhide HW)).mono ?_
    rintro e w2 ⟨v2, rfl, G2, hb2⟩
    have B2 := below_trans' B1 hb2
    obtain ⟨a2, c2, rfl, -⟩ := id G2
    clear hb2 B1
    go_wp2_with fail
    refine (rwords_any s _ m n (unhide HW)).mono ?_
    rintro e w3 ⟨v3, rfl, G3, hb3⟩
    have B3 := below_trans' B2 hb3
    have G2 := G2.below hb3
    obtain ⟨a3, c3, rfl, -⟩ := id G3
    clear hb3 B2
    go_wp2_with fail
    refine (texts_any _ _ m _ G2 G3).mono ?_
    rintro e w4 ⟨rfl, hb4⟩
    have B4 := below_trans' B3 hb4
    clear hb4 B3 G2 G3
    go_wp2_with fail
    refine (valid_any s _ r (unhide HR)).mono ?_
    rintro e w5 ⟨rfl, hb5⟩
    have B5 := below_trans' B4 hb5
    clear hb5 B4
    go_wp2_with fail
    refine (rvalid_any s _ (by omega) r (unhide HR)).mono ?_
    rintro e w6 ⟨rfl, hb6⟩
    have B6 := below_trans' B5 hb6
    clear hb6 B5
    go_wp2_with fail
    refine (term_any s _ t (unhide HT)).mono ?_
    rintro e w7 ⟨rfl, hb7⟩
    have B7 := below_trans' B6 hb7
    clear hb7 B6
    go_wp2_with fail
    refine (rterm_any s _ t (unhide HT)).mono ?_
    rintro e w8 ⟨rfl, hb8⟩
    have B8 := below_trans' B7 hb8
    clear hb8 B7
    go_wp2
    go_ret
    exact ⟨rfl, B8⟩

set_option maxRecDepth 1000000 in
set_option maxHeartbeats 2000000 in
theorem tokenCards_walk (i : ByteArray) (key : Int) (s : ByteArray) (w : World) :
    Calls Try.prog 4 #[.string i, .int .i64 key, .string s] w fun e w' => e = .returned (.bool true) ∧ Below w.heap.size w w' := by
  go_enter Try.func4, Try.ntmps4
  go_wp2_with fail
  refine (awake5_any _).mono ?_
  rintro e w1 ⟨rfl, B1⟩
  by_cases h5 : (500 : Int) < (s.size : Int)
  · go_wp2
    go_ret
    exact ⟨rfl, B1⟩
  by_cases h6 : (500 : Int) < (i.size : Int)
  · go_wp2
    go_ret
    exact ⟨rfl, B1⟩
  obtain ⟨I, K, m, n, hc⟩ : ∃ I K m n, T.cardR i key s = ((I, K, m), n) := ⟨_, _, _, _, rfl⟩
  have HC := hide hc
  have hnn : (n == n) = true := by simp
  clear hc
  go_wp2_with fail
  refine (card_b i key s _ I K m n (unhide HC)).mono ?_
  rintro e w2 ⟨v2, rfl, G2, hb2⟩
  have B2 := below_trans' B1 hb2
  obtain ⟨a2, c2, rfl, -⟩ := id G2
  clear hb2 B1
  obtain ⟨W, hW⟩ : ∃ W, W = w2.alloc (.cells #[.string I, .int .i64 K, .slice a2 m.length c2] 30) := ⟨_, rfl⟩
  have hb3 : Below w2.heap.size w2 W := by rw [hW]; exact below_alloc _ _
  have d0 : W.cell? ⟨w2.heap.size, 0, none⟩ = some (.string I) := by rw [hW]; simp [go_sem]
  have d1 : W.cell? ⟨w2.heap.size, 1, none⟩ = some (.int .i64 K) := by rw [hW]; simp [go_sem]
  have d2 : W.cell? ⟨w2.heap.size, 2, none⟩ = some (.slice a2 m.length c2) := by rw [hW]; simp [go_sem]
  have B3 := below_trans' B2 hb3
  have G3 := G2.below hb3
  have HW := hide hW
  clear hW hb3 B2 G2
  go_wp2_with fail
  rw [← unhide HW]
  refine (rcard_b i key s _ I K m n (unhide HC)).mono ?_
  rintro e w4 ⟨v4, rfl, G4, hb4⟩
  have B4 := below_trans' B3 hb4
  have G5 := G3.below hb4
  have e0 := cell_keep d0 hb4
  have e1 := cell_keep d1 hb4
  have e2 := cell_keep d2 hb4
  obtain ⟨a4, c4, rfl, -⟩ := id G4
  clear hb4 B3 G3 d0 d1 d2 HW
  obtain ⟨W5, hW5⟩ : ∃ W5, W5 = w4.alloc (.cells #[.string I, .int .i64 K, .slice a4 m.length c4] 30) := ⟨_, rfl⟩
  have hb5 : Below w4.heap.size w4 W5 := by rw [hW5]; exact below_alloc _ _
  have B5 := below_trans' B4 hb5
  have G6 := G5.below hb5
  have G7 := G4.below hb5
  have HW5 := hide hW5
  have hlt : w2.heap.size < w4.heap.size := World.block_lt_of_cell? _ _ e0
  clear hW5 hb5 B4 G4 G5
  go_wp2_with fail
  rw [← unhide HW5]
  refine (samec_any I K _ _ m _ G6 G7).mono ?_
  rintro e w6 ⟨rfl, hb6⟩
  have B6 := below_trans' B5 hb6
  clear hb6 B5 G6 G7 HW5 e0 e1 e2
  go_wp2
  go_ret
  exact ⟨rfl, B6⟩
end Go.Proofs.Ytpmbgbahoinelaa
