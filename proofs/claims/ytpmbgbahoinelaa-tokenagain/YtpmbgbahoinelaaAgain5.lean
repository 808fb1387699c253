/-
  TokenAgain's walk.
-/
import Derived.Test.YtpmbgbahoinelaaAwake5
namespace Go.Proofs.Ytpmbgbahoinelaa
open Go.RowKit

theorem term_no {s : ByteArray} {m : List ByteArray} {n : Int} (h : T.wordsR s = (m, n)) (hn : n ≠ 0) : T.termR s (T.wordsR s) = false := by
  rw [h]
  simp [T.termR, hn]

set_option maxRecDepth 1000000 in
set_option maxHeartbeats 4000000 in
theorem tokenAgain_walk (s : ByteArray) (w : World) :
    Calls Try.prog 5 #[.string s] w fun e w' => e = .returned (.bool true) ∧ Below w.heap.size w w' := by
  go_enter Try.func5, Try.ntmps5
  go_wp2_with fail
  refine (awake5_any _).mono ?_
  rintro e w1 ⟨rfl, B1⟩
  by_cases h5 : (500 : Int) < (s.size : Int)
  · go_wp2
    go_ret
    exact ⟨rfl, B1⟩
  obtain ⟨m, n, hw⟩ : ∃ m n, T.wordsR s = (m, n) := ⟨_, _, rfl⟩
  have HW := hide hw
  clear hw
  go_wp2_with fail
  refine (words_any s _ m n (unhide HW)).mono ?_
  rintro e w2 ⟨v2, rfl, G2, hb2⟩
  have B2 := below_trans' B1 hb2
  clear hb2 B1
  by_cases hn : n = 0
  · subst hn
    have hfew := few_plain (unhide HW)
    have hml := hfew.1
    have HF := hide hfew.2
    have hlong := (wordsR_ok (unhide HW)).2.2.2
    have HJZ : Hid (∀ k, k ≤ m.length → (joinB (m.take k)).size ≤ 33 * k) := joinB_size hlong
    clear hfew hlong
    have G0 := G2
    obtain ⟨a, cap, rfl, hl, hm, hna, ho⟩ := G2.open
    clear G2
    go_wp2
    go_loopw [6, 7] (fun va vi wr => ∃ (k : Nat) (A : ByteArray), k ≤ m.length ∧ vi = .int .i64 k ∧ va = .string A ∧ Below w2.heap.size w2 wr ∧ Hid (joinB (m.take k) = A)) (fun _ vi _ => m.length - (intOf vi).toNat)
    case atStart => exact ⟨0, ⟨#[]⟩, Nat.zero_le _, rfl, rfl, Below.refl _ _, rfl⟩
    case round =>
      obtain ⟨k, A, hk, rfl, rfl, hbr, HA⟩ := hrel
      by_cases hlt : k < m.length
      · obtain ⟨b, off, rfl, hb, hc⟩ := ho (by omega)
        obtain ⟨x, hx⟩ : ∃ x, m[k]? = some x := ⟨m[k], List.getElem?_eq_getElem hlt⟩
        have c1 := cell_keep (hc k x hx) hbr
        have hxz := (unhide HF) x (List.mem_of_getElem? hx)
        have hAz : A.size ≤ 33 * k := by rw [← unhide HA]; exact (unhide HJZ) k (by omega)
        have HX : Hid (T.termR x (T.wordsR x) = true) := word_term (unhide HW) (List.mem_of_getElem? hx)
        have hjt := joinB_take hx
        rw [unhide HA] at hjt
        clear hc ho hx
        by_cases hk0 : k = 0
        · subst hk0
          rw [if_pos rfl] at hjt
          obtain ⟨A2, hA2⟩ : ∃ A2, A ++ x = A2 := ⟨_, rfl⟩
          rw [hA2] at hjt
          have hadd : ∀ w : World, (Op.stringOp .add A x).run Try.prog w = .ok (.string A2) w := fun w => by rw [run_string_add_sum w A x (by omega), hA2]
          have HJ := hide hjt
          clear hjt hA2
          have c1 : wr.cell? ⟨b, off, none⟩ = some (.string x) := by simpa using c1
          go_wp2_with fail
          refine (term_any x _ true (unhide HX)).mono ?_
          rintro e w4 ⟨rfl, hb4⟩
          have hbr2 := below_trans' hbr hb4
          have c2 := cell_keep c1 hb4
          clear c1 hb4 hbr
          go_wp2
          go_roundw
          case rel => exact ⟨0 + 1, A2, by omega, by go_num, rfl, hbr2, unhide HJ⟩
          case measure => simp [intOf]; omega
        · rw [if_neg hk0] at hjt
          obtain ⟨A1, hA1⟩ : ∃ A1, A ++ ⟨#[32]⟩ = A1 := ⟨_, rfl⟩
          obtain ⟨A2, hA2⟩ : ∃ A2, A1 ++ x = A2 := ⟨_, rfl⟩
          rw [hA1, hA2] at hjt
          have h32 : (⟨#[32]⟩ : ByteArray).size = 1 := rfl
          have hA1z : A1.size = A.size + 1 := by rw [← hA1, ByteArray.size_append, h32]
          have hadd1 : ∀ w : World, (Op.stringOp .add A ⟨#[32]⟩).run Try.prog w = .ok (.string A1) w := fun w => by rw [run_string_add_sum w A ⟨#[32]⟩ (by rw [h32]; omega), hA1]
          have hadd2 : ∀ w : World, (Op.stringOp .add A1 x).run Try.prog w = .ok (.string A2) w := fun w => by rw [run_string_add_sum w A1 x (by omega), hA2]
          have HJ := hide hjt
          clear hjt hA1 hA2 h32 hA1z
          have g0 : (0 : Int) < (k : Int) := by omega
          go_wp2_with fail
          refine (term_any x _ true (unhide HX)).mono ?_
          rintro e w4 ⟨rfl, hb4⟩
          have hbr2 := below_trans' hbr hb4
          have c2 := cell_keep c1 hb4
          clear c1 hb4 hbr
          go_wp2
          go_roundw
          case rel => exact ⟨k + 1, A2, by omega, by go_num, rfl, hbr2, unhide HJ⟩
          case measure => simp [intOf]; omega
      · have hA := unhide HA
        rw [List.take_of_length_le (by omega)] at hA
        obtain ⟨hj1, hj2⟩ := joinB_words (unhide HW)
        rw [hA] at hj1 hj2
        have HJ := hide hj1
        have hle : (A.size : Int) ≤ (s.size : Int) := by omega
        clear hA hj1 hj2 ho
        have G3 := G0.below hbr
        have B3 := below_trans' B2 hbr
        clear G0 hbr B2
        go_wp2_with fail
        refine (words_any A _ m 0 (unhide HJ)).mono ?_
        rintro e w4 ⟨v4, rfl, G4, hb4⟩
        have B4 := below_trans' B3 hb4
        have G3 := G3.below hb4
        obtain ⟨a4, c4, rfl, -⟩ := id G4
        clear hb4 B3
        go_wp2_with fail
        refine (texts_any _ _ m _ G4 G3).mono ?_
        rintro e w5 ⟨rfl, hb5⟩
        have B5 := below_trans' B4 hb5
        clear hb5 B4 G3 G4
        go_wp2
        go_ret
        exact ⟨by simp, B5⟩
  · obtain ⟨rfl, h78⟩ := wordsR_err (unhide HW) hn
    have HT := hide (term_no (unhide HW) hn)
    obtain ⟨a, cap, rfl, -⟩ := id G2
    clear HW G2
    simp only [List.length_nil]
    rcases h78 with rfl | rfl
    · go_wp2_with fail
      refine (term_any s _ false (unhide HT)).mono ?_
      rintro e w3 ⟨rfl, hb3⟩
      have B3 := below_trans' B2 hb3
      clear hb3 B2
      go_wp2
      go_ret
      exact ⟨rfl, B3⟩
    · go_wp2_with fail
      refine (term_any s _ false (unhide HT)).mono ?_
      rintro e w3 ⟨rfl, hb3⟩
      have B3 := below_trans' B2 hb3
      clear hb3 B2
      go_wp2
      go_ret
      exact ⟨rfl, B3⟩
end Go.Proofs.Ytpmbgbahoinelaa
