/-
  TokenJoins' walk.
-/
import Derived.Test.YtpmbgbahoinelaaAwake5
namespace Go.Proofs.Ytpmbgbahoinelaa
open Go.RowKit

set_option maxRecDepth 1000000 in
set_option maxHeartbeats 4000000 in
theorem tokenJoins_walk (a b : ByteArray) (w : World) :
    Calls Try.prog 6 #[.string a, .string b] w fun e w' => e = .returned (.bool true) ∧ Below w.heap.size w w' := by
  obtain ⟨i9, hi9, hz90, hz91, hz92⟩ := info_parts Try.info9
  go_enter Try.func6, Try.ntmps6
  go_wp2_with fail
  refine (awake5_any _).mono ?_
  rintro e w1 ⟨rfl, B1⟩
  by_cases h5 : (240 : Int) < (a.size : Int)
  · go_wp2
    go_ret
    exact ⟨rfl, B1⟩
  by_cases h6 : (239 : Int) - (a.size : Int) < (b.size : Int)
  · go_wp2
    go_ret
    exact ⟨rfl, B1⟩
  obtain ⟨l, e, hl⟩ : ∃ l e, T.wordsR a = (l, e) := ⟨_, _, rfl⟩
  obtain ⟨m, f, hm⟩ : ∃ m f, T.wordsR b = (m, f) := ⟨_, _, rfl⟩
  obtain ⟨n, g, hn⟩ : ∃ n g, T.wordsR (a ++ ⟨#[32]⟩ ++ b) = (n, g) := ⟨_, _, rfl⟩
  have hp := joins_plain (by omega) hl hm hn
  have hll := (few_plain hl).1
  have hml := (few_plain hm).1
  obtain ⟨A1, hA1⟩ : ∃ A1, a ++ ⟨#[32]⟩ = A1 := ⟨_, rfl⟩
  obtain ⟨A2, hA2⟩ : ∃ A2, A1 ++ b = A2 := ⟨_, rfl⟩
  rw [hA1, hA2] at hn
  have h32 : (⟨#[32]⟩ : ByteArray).size = 1 := rfl
  have hA1z : A1.size = a.size + 1 := by rw [← hA1, ByteArray.size_append, h32]
  have hadd1 : ∀ w : World, (Op.stringOp .add a ⟨#[32]⟩).run Try.prog w = .ok (.string A1) w := fun w => by rw [run_string_add_sum w a ⟨#[32]⟩ (by rw [h32]; omega), hA1]
  have hadd2 : ∀ w : World, (Op.stringOp .add A1 b).run Try.prog w = .ok (.string A2) w := fun w => by rw [run_string_add_sum w A1 b (by omega), hA2]
  have HL := hide hl
  have HM := hide hm
  have HN := hide hn
  have HP := hide hp
  clear hl hm hn hp hA1 hA2 h32 hA1z
  go_wp2_with fail
  refine (words_any a _ l e (unhide HL)).mono ?_
  rintro e' w2 ⟨v2, rfl, G2, hb2⟩
  have B2 := below_trans' B1 hb2
  obtain ⟨a2, c2, rfl, -⟩ := id G2
  clear hb2 B1
  go_wp2_with fail
  refine (words_any b _ m f (unhide HM)).mono ?_
  rintro e' w3 ⟨v3, rfl, G3, hb3⟩
  have B3 := below_trans' B2 hb3
  have G2 := G2.below hb3
  obtain ⟨a3, c3, rfl, -⟩ := id G3
  clear hb3 B2
  go_wp2_with fail
  refine (words_any A2 _ n g (unhide HN)).mono ?_
  rintro e' w4 ⟨v4, rfl, G4, hb4⟩
  have B4 := below_trans' B3 hb4
  have G2 := G2.below hb4
  have G3 := G3.below hb4
  obtain ⟨a4, c4, rfl, -⟩ := id G4
  clear hb4 B3 hadd1 hadd2
  by_cases h0 : e = 0 ∧ f = 0
  · obtain ⟨hn2, hg2⟩ := (unhide HP).2 h0
    obtain ⟨rfl, rfl⟩ := h0
    subst hg2
    have HN2 := hide hn2
    clear HP HL HM HN hn2
    go_wp2_with (first
      | (at_builtin; refine append_allG (f := Value.string) rfl _ _ 23 rfl Try.underlying23 hi9 hz90 hz91 hz92 rfl (fun _ => rfl) (pre := []) rfl rfl G2 (World.ownsRow_nil _ _ _ _) (Below.refl w4.heap.size w4) (Nat.le_refl _) (by simp; omega) (by decide) ?_; intro v5 w5 hown5 hbel5; rw [List.nil_append] at hown5; have G3 := G3.below hbel5; obtain ⟨a5, c5, rfl, -⟩ := id (Gl.owned hown5))
      | (at_builtin; refine append_allG (f := Value.string) rfl _ _ 23 rfl Try.underlying23 hi9 hz90 hz91 hz92 rfl (fun _ => rfl) (pre := l) rfl rfl G3 hown5 hbel5 hbel5.size (by omega) (by decide) ?_; intro v6 w6 hown6 hbel6; have G7 := Gl.owned hown6; rw [← unhide HN2] at G7; have G8 := G4.below hbel6; obtain ⟨a6, c6, rfl, -⟩ := id G7))
    refine (texts_any _ _ n _ G8 G7).mono ?_
    rintro e' w7 ⟨rfl, hb7⟩
    have B7 := below_trans' (below_trans' B4 hbel6) hb7
    clear hb7 B4 G2 G3 G4 G7 G8 hown5 hown6 hbel5 hbel6
    go_wp2
    go_ret
    exact ⟨rfl, B7⟩
  · have hg := (unhide HP).1 h0
    have hg2 : (g != 0) = true := by simpa using hg
    by_cases he : e = 0
    · have hf2 : (f != 0) = true := by simp; exact fun q => h0 ⟨he, q⟩
      subst he
      go_wp2
      go_ret
      exact ⟨rfl, B4⟩
    · have he2 : (e != 0) = true := by simpa using he
      go_wp2
      go_ret
      exact ⟨rfl, B4⟩
end Go.Proofs.Ytpmbgbahoinelaa
