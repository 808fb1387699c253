/-
  The contracts of layer 5's small functions: is a sign great, is it of a word, its small one; does a text begin so; is there a byte from one to another one.
-/
import Derived.Test.YtpmbgbahoinelaaRows
import Derived.Test.YtpmbgbahoinelaaHelp5
import Derived.Test.YtpmbgbahoinelaaWords5
import Derived.Test.YtpmbgbahoinelaaDec5
import Derived.Test.YtpmbgbahoinelaaPlainRuns5
import Derived.Deep.QuietTactic
import Derived.BigQuiet
namespace Go.Proofs.Ytpmbgbahoinelaa
open Go.RowKit

def T.great (x : Int) : Bool := decide (65 ≤ x) && decide (x ≤ 90)

theorem capital_any (x : Int) (w : World) (r : Bool) (hr : T.great x = r) : Calls Try.prog 29 #[.int .i32 x] w fun e w' => e = .returned (.bool r) ∧ w' = w := by
  subst hr
  by_cases h1 : 65 ≤ x
  · by_cases h2 : x ≤ 90
    · go_enter Try.func29, Try.ntmps29
      go_wp2
      go_ret
      exact ⟨by simp [T.great, h1, h2], rfl⟩
    · go_enter Try.func29, Try.ntmps29
      go_wp2
      go_ret
      exact ⟨by simp [T.great, h1, h2], rfl⟩
  · go_enter Try.func29, Try.ntmps29
    go_wp2
    go_ret
    exact ⟨by simp [T.great]; omega, rfl⟩

theorem small_any (x : Int) (h0 : 0 ≤ x) (h1 : x ≤ 2147483647) (w : World) (y : Int) (hy : T.lows x = y) : Calls Try.prog 26 #[.int .i32 x] w fun e w' => e = .returned (.int .i32 y) ∧ w' = w := by
  by_cases hc : 65 ≤ x ∧ x ≤ 90
  · have hg : T.great x = true := by simp [T.great]; omega
    have HY := hide hy
    have HC := hide hc
    clear hy hc
    go_enter Try.func26, Try.ntmps26
    go_wp2_with fail
    refine (capital_any x _ true hg).mono ?_
    rintro e w1 ⟨rfl, rfl⟩
    go_wp2
    go_ret
    refine ⟨?_, rfl⟩
    have hy := unhide HY
    have hc := unhide HC
    unfold T.lows at hy
    rw [if_pos hc] at hy
    have hw : wrap32 (x - 65 + 97) = y := by simp only [wrap32]; omega
    rw [hw]
    rfl
  · have hg : T.great x = false := by simp [T.great]; omega
    have HY := hide hy
    have HC := hide hc
    clear hy hc
    go_enter Try.func26, Try.ntmps26
    go_wp2_with fail
    refine (capital_any x _ false hg).mono ?_
    rintro e w1 ⟨rfl, rfl⟩
    go_wp2
    go_ret
    refine ⟨?_, rfl⟩
    have hy := unhide HY
    have hc := unhide HC
    unfold T.lows at hy
    rw [if_neg hc] at hy
    rw [hy]
    rfl

theorem ofWord_any (c : Nat) (w : World) (r : Bool) (hr : T.letter c = r) : Calls Try.prog 25 #[.int .i32 (c : Int)] w fun e w' => e = .returned (.bool r) ∧ w' = w := by
  have HR := hide hr
  clear hr
  have hc : c ≤ 47 ∨ (48 ≤ c ∧ c ≤ 57) ∨ (58 ≤ c ∧ c ≤ 64) ∨ (65 ≤ c ∧ c ≤ 90) ∨ (91 ≤ c ∧ c ≤ 96) ∨ (97 ≤ c ∧ c ≤ 122) ∨ (123 ≤ c ∧ c ≤ 127) ∨ 128 ≤ c := by omega
  rcases hc with hc | hc | hc | hc | hc | hc | hc | hc
  · have g2 : (c : Int) ≤ 47 := by omega
    have hl : T.letter c = false := by simp [T.letter]; omega
    have HL := hide hl
    have HG : Hid (T.great (c : Int) = false) := by show _ = _; simp [T.great]; omega
    clear hc hl
    go_enter Try.func25, Try.ntmps25
    go_wp2_with fail
    refine (capital_any c _ _ (unhide HG)).mono ?_
    rintro e w1 ⟨rfl, rfl⟩
    go_wp2
    go_ret
    exact ⟨by rw [← unhide HR, unhide HL]; first | rfl | (simp; omega), rfl⟩
  · have g1 : (48 : Int) ≤ (c : Int) := by omega
    have g2 : (c : Int) ≤ 57 := by omega
    have hl : T.letter c = true := by simp [T.letter]; omega
    have HL := hide hl
    have HG : Hid (T.great (c : Int) = false) := by show _ = _; simp [T.great]; omega
    clear hc hl
    go_enter Try.func25, Try.ntmps25
    go_wp2_with fail
    refine (capital_any c _ _ (unhide HG)).mono ?_
    rintro e w1 ⟨rfl, rfl⟩
    go_wp2
    go_ret
    exact ⟨by rw [← unhide HR, unhide HL]; first | rfl | (simp; omega), rfl⟩
  · have g1 : (58 : Int) ≤ (c : Int) := by omega
    have g2 : (c : Int) ≤ 64 := by omega
    have hl : T.letter c = false := by simp [T.letter]; omega
    have HL := hide hl
    have HG : Hid (T.great (c : Int) = false) := by show _ = _; simp [T.great]; omega
    clear hc hl
    go_enter Try.func25, Try.ntmps25
    go_wp2_with fail
    refine (capital_any c _ _ (unhide HG)).mono ?_
    rintro e w1 ⟨rfl, rfl⟩
    go_wp2
    go_ret
    exact ⟨by rw [← unhide HR, unhide HL]; first | rfl | (simp; omega), rfl⟩
  · have g1 : (65 : Int) ≤ (c : Int) := by omega
    have g2 : (c : Int) ≤ 90 := by omega
    have hl : T.letter c = true := by simp [T.letter]; omega
    have HL := hide hl
    have HG : Hid (T.great (c : Int) = true) := by show _ = _; simp [T.great]; omega
    clear hc hl
    go_enter Try.func25, Try.ntmps25
    go_wp2_with fail
    refine (capital_any c _ _ (unhide HG)).mono ?_
    rintro e w1 ⟨rfl, rfl⟩
    go_wp2
    go_ret
    exact ⟨by rw [← unhide HR, unhide HL]; first | rfl | (simp; omega), rfl⟩
  · have g1 : (91 : Int) ≤ (c : Int) := by omega
    have g2 : (c : Int) ≤ 96 := by omega
    have hl : T.letter c = false := by simp [T.letter]; omega
    have HL := hide hl
    have HG : Hid (T.great (c : Int) = false) := by show _ = _; simp [T.great]; omega
    clear hc hl
    go_enter Try.func25, Try.ntmps25
    go_wp2_with fail
    refine (capital_any c _ _ (unhide HG)).mono ?_
    rintro e w1 ⟨rfl, rfl⟩
    go_wp2
    go_ret
    exact ⟨by rw [← unhide HR, unhide HL]; first | rfl | (simp; omega), rfl⟩
  · have g1 : (97 : Int) ≤ (c : Int) := by omega
    have g2 : (c : Int) ≤ 122 := by omega
    have hl : T.letter c = true := by simp [T.letter]; omega
    have HL := hide hl
    clear hc hl
    go_enter Try.func25, Try.ntmps25
    go_wp2
    go_ret
    exact ⟨by rw [← unhide HR, unhide HL]; first | rfl | (simp; omega), rfl⟩
  · have g1 : (123 : Int) ≤ (c : Int) := by omega
    have g2 : (c : Int) ≤ 127 := by omega
    have hl : T.letter c = false := by simp [T.letter]; omega
    have HL := hide hl
    have HG : Hid (T.great (c : Int) = false) := by show _ = _; simp [T.great]; omega
    clear hc hl
    go_enter Try.func25, Try.ntmps25
    go_wp2_with fail
    refine (capital_any c _ _ (unhide HG)).mono ?_
    rintro e w1 ⟨rfl, rfl⟩
    go_wp2
    go_ret
    exact ⟨by rw [← unhide HR, unhide HL]; first | rfl | (simp; omega), rfl⟩
  · have g1 : (128 : Int) ≤ (c : Int) := by omega
    have hl : T.letter c = true := by simp [T.letter]; omega
    have HL := hide hl
    have HG : Hid (T.great (c : Int) = false) := by show _ = _; simp [T.great]; omega
    clear hc hl
    go_enter Try.func25, Try.ntmps25
    go_wp2_with fail
    refine (capital_any c _ _ (unhide HG)).mono ?_
    rintro e w1 ⟨rfl, rfl⟩
    go_wp2
    go_ret
    exact ⟨by rw [← unhide HR, unhide HL]; first | rfl | (simp; omega), rfl⟩

/-- Does a text begin with the bytes that stand for a fault? -/
def T.pre (s : ByteArray) : Bool := decide (3 ≤ s.size) && ((s.extract 0 3).toList == [239, 191, 189])

theorem litePrefix_any (s : ByteArray) (w : World) : Calls Try.prog 27 #[.string s, .string ⟨#[239, 191, 189]⟩] w fun e w' => e = .returned (.bool (T.pre s)) ∧ w' = w := by
  by_cases h : 3 ≤ s.size
  · have g : (3 : Int) ≤ (s.size : Int) := by omega
    go_enter Try.func27, Try.ntmps27
    go_wp2
    go_ret
    exact ⟨by simp [T.pre, h], rfl⟩
  · have g : ¬ (3 : Int) ≤ (s.size : Int) := by omega
    go_enter Try.func27, Try.ntmps27
    go_wp2
    go_ret
    exact ⟨by simp [T.pre, h], rfl⟩

theorem prefix_any (s : ByteArray) (w : World) (r : Bool) (hr : T.pre s = r) : Calls Try.prog 23 #[.string s, .string ⟨#[239, 191, 189]⟩] w fun e w' => e = .returned (.bool r) ∧ w' = w := by
  subst hr
  go_enter Try.func23, Try.ntmps23
  go_wp2_with fail
  refine (litePrefix_any s _).mono ?_
  rintro e w1 ⟨rfl, rfl⟩
  go_wp2
  go_ret
  exact ⟨rfl, rfl⟩
end Go.Proofs.Ytpmbgbahoinelaa
