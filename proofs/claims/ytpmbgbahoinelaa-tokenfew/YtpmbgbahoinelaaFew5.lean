/-
  TokenFew's walk.
-/
import Derived.Test.YtpmbgbahoinelaaAwake5
namespace Go.Proofs.Ytpmbgbahoinelaa
open Go.RowKit

theorem card_plain {i s I : ByteArray} {key K n f : Int} {m cm : List ByteArray} (hw : T.wordsR s = (m, n)) (hc : T.cardR i key s = ((I, K, cm), f)) :
    (f ≠ 0 → I = ⟨#[]⟩ ∧ K = 0 ∧ cm = []) ∧ (f = 0 → I = i ∧ K = key ∧ cm = m ∧ n = 0) := by
  unfold T.cardR at hc
  rw [hw] at hc
  split at hc
  · cases hc
    exact ⟨fun _ => ⟨rfl, rfl, rfl⟩, fun h => by cases h⟩
  · split at hc
    · cases hc
      exact ⟨fun _ => ⟨rfl, rfl, rfl⟩, fun h => by cases h⟩
    · split at hc
      · rename_i h
        cases hc
        exact ⟨fun _ => ⟨rfl, rfl, rfl⟩, fun h2 => absurd h2 h⟩
      · rename_i h
        cases hc
        exact ⟨fun h2 => absurd rfl h2, fun _ => ⟨rfl, rfl, rfl, by simpa using h⟩⟩

set_option maxRecDepth 1000000 in
set_option maxHeartbeats 4000000 in
theorem tokenFew_walk (i : ByteArray) (key : Int) (s : ByteArray) (w : World) :
    Calls Try.prog 9 #[.string i, .int .i64 key, .string s] w fun e w' => e = .returned (.bool true) ∧ Below w.heap.size w w' := by
  go_enter Try.func9, Try.ntmps9
  go_wp2_with fail
  refine (awake5_any _).mono ?_
  rintro e w1 ⟨rfl, B1⟩
  by_cases h5 : (500 : Int) < (s.size : Int)
  · go_wp2
    go_ret
    exact ⟨rfl, B1⟩
  by_cases h6 : (500 : Int) < (i.size : Int)
  · go_wp2
    go_ret
    exact ⟨rfl, B1⟩
  obtain ⟨m, n, hw⟩ : ∃ m n, T.wordsR s = (m, n) := ⟨_, _, rfl⟩
  obtain ⟨I, K, cm, f, hc⟩ : ∃ I K cm f, T.cardR i key s = ((I, K, cm), f) := ⟨_, _, _, _, rfl⟩
  have hcp := card_plain hw hc
  have hfew := few_plain hw
  have hml := hfew.1
  have HF := hide hfew.2
  have hok : n = 0 → s.size ≤ 240 := fun h => by subst h; exact (wordsR_ok hw).1
  have HOK := hide hok
  have HW := hide hw
  have HC := hide hc
  have HP := hide hcp
  clear hw hc hcp hfew hok
  go_wp2_with fail
  refine (words_any s _ m n (unhide HW)).mono ?_
  rintro e w2 ⟨v2, rfl, G2, hb2⟩
  have B2 := below_trans' B1 hb2
  obtain ⟨a2, c2, rfl, -⟩ := id G2
  clear hb2 B1
  go_wp2_with fail
  refine (card_b i key s _ I K cm f (unhide HC)).mono ?_
  rintro e w3 ⟨v3, rfl, G3, hb3⟩
  have B3 := below_trans' B2 hb3
  have G2 := G2.below hb3
  obtain ⟨a3, c3, rfl, -⟩ := id G3
  clear hb3 B2 HC HW
  obtain ⟨W, hW⟩ : ∃ W, W = w3.alloc (.cells #[.string I, .int .i64 K, .slice a3 cm.length c3] 30) := ⟨_, rfl⟩
  have hb4 : Below w3.heap.size w3 W := by rw [hW]; exact below_alloc _ _
  have d0 : W.cell? ⟨w3.heap.size, 0, none⟩ = some (.string I) := by rw [hW]; simp [go_sem]
  have d1 : W.cell? ⟨w3.heap.size, 1, none⟩ = some (.int .i64 K) := by rw [hW]; simp [go_sem]
  have d2 : W.cell? ⟨w3.heap.size, 2, none⟩ = some (.slice a3 cm.length c3) := by rw [hW]; simp [go_sem]
  have B4 := below_trans' B3 hb4
  have G2 := G2.below hb4
  have G3 := G3.below hb4
  have HW := hide hW
  clear hW hb4 B3
  obtain ⟨a2', c2', hv2, hl, hm, hna, ho⟩ := G2.open
  cases hv2
  go_wp2
  rw [← unhide HW]
  clear HW
  go_loop [12] (fun vi => ∃ k : Nat, k ≤ m.length ∧ vi = .int .i64 k) (fun vi => m.length - (intOf vi).toNat)
  case atStart => exact ⟨0, Nat.zero_le _, rfl⟩
  case round =>
    obtain ⟨k, hk, rfl⟩ := hrel
    by_cases hlt : k < m.length
    · obtain ⟨b, off, rfl, hb, hc⟩ := ho (by omega)
      obtain ⟨x, hx⟩ : ∃ x, m[k]? = some x := ⟨m[k], List.getElem?_eq_getElem hlt⟩
      have e1 := hc k x hx
      have hxz := (unhide HF) x (List.mem_of_getElem? hx)
      have g1 : ¬ (x.size : Int) < 1 := by omega
      have g2 : ¬ (32 : Int) < (x.size : Int) := by omega
      clear hc ho hx hxz
      go_wp2
      go_round
      case rel => exact ⟨k + 1, by omega, by go_num⟩
      case measure => simp [intOf]; omega
    · clear ho
      by_cases hf : f = 0
      · obtain ⟨rfl, rfl, rfl, rfl⟩ := (unhide HP).2 hf
        subst hf
        have hsz := (unhide HOK) rfl
        clear HP HOK HF
        go_wp2_with fail
        refine (texts_any _ _ cm _ G3 G2).mono ?_
        rintro e w5 ⟨rfl, hb5⟩
        have B5 := below_trans' B4 hb5
        have d0 := cell_keep d0 hb5
        have d1 := cell_keep d1 hb5
        have hii : (I.toList == I.toList) = true := by simp
        have g1 : (2 : Int) * (cm.length : Int) ≤ (s.size : Int) + 1 := by omega
        have g2 : (cm.length : Int) ≤ 120 := by omega
        clear hb5 B4 G2 G3 d2
        go_wp2
        go_ret
        exact ⟨by first | rfl | (simp; omega), B5⟩
      · obtain ⟨rfl, rfl, rfl⟩ := (unhide HP).1 hf
        have hf2 : (f != 0) = true := by simpa using hf
        have g1 : (2 : Int) * (m.length : Int) ≤ (s.size : Int) + 1 := by omega
        clear HP HOK HF
        go_wp2_with fail
        refine (samec_any ⟨#[]⟩ 0 _ _ [] _ G3 (Gl.nil _ _)).mono ?_
        rintro e w5 ⟨rfl, hb5⟩
        have B5 := below_trans' B4 hb5
        clear hb5 B4 G2 G3 d0 d1 d2
        go_wp2
        go_ret
        exact ⟨by first | rfl | (simp; omega), B5⟩
end Go.Proofs.Ytpmbgbahoinelaa
