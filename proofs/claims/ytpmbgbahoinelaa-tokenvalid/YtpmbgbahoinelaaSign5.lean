/-
  The contracts of the document's own Valid, and what it calls: how many bytes a sign has, is there a byte from one to another one, is a byte of a word.
-/
import Derived.Test.YtpmbgbahoinelaaValid5
namespace Go.Proofs.Ytpmbgbahoinelaa
open Go.RowKit

theorem Try.index_string (s : ByteArray) (k : Nat) (h : k < s.size) (w : World) (x : Int) (hx : x = (k : Int)) (b : Nat) (hb : T.byt (T.bs s) k = b) :
    (Instr.index 9 (.string s) (.int .i64 x)).run Try.prog w = .ok (.int .u8 (b : Int)) w := by
  subst hx hb
  rw [run_index_string w 9 s .i64 (k : Int) Try.underlying9, dif_pos (by omega)]
  congr 2
  have : s[(k : Int).toNat]'(by simpa using h) = s.data[k]'h := rfl
  rw [this]
  unfold T.byt T.bs
  have h2 : k < s.data.size := h
  simp [List.getD, Array.getElem?_eq_getElem h2]

def T.inb (l : List UInt8) (k lo hi : Nat) : Bool := decide (k < l.length) && decide (lo ≤ T.byt l k) && decide (T.byt l k ≤ hi)

theorem inb_drop (l : List UInt8) (i k lo hi : Nat) : T.inb l (i + k) lo hi = T.inb (l.drop i) k lo hi := by
  unfold T.inb
  rw [T.byt_drop]
  congr 2
  simp only [List.length_drop]
  rw [decide_eq_decide]
  omega

theorem in_any (s : ByteArray) (x : Int) (k lo hi : Nat) (hx : x = (k : Int)) (w : World) (r : Bool) (hr : T.inb (T.bs s) k lo hi = r) :
    Calls Try.prog 28 #[.string s, .int .i64 x, .int .u8 (lo : Int), .int .u8 (hi : Int)] w fun e w' => e = .returned (.bool r) ∧ w' = w := by
  subst hx
  unfold T.inb at hr
  rw [bs_len] at hr
  have HR := hide hr
  clear hr
  by_cases h : k < s.size
  · obtain ⟨b, hb⟩ : ∃ b, T.byt (T.bs s) k = b := ⟨_, rfl⟩
    have hix : ∀ w : World, (Instr.index 9 (.string s) (.int .i64 (k : Int))).run Try.prog w = .ok (.int .u8 (b : Int)) w := fun w => Try.index_string s k h w _ rfl b hb
    have HB := hide hb
    clear hb
    have g : (k : Int) < (s.size : Int) := by omega
    by_cases h1 : (lo : Int) ≤ (b : Int)
    · go_enter Try.func28, Try.ntmps28
      go_wp2
      go_ret
      refine ⟨?_, rfl⟩
      rw [← unhide HR, unhide HB]
      simp [h]
      omega
    · go_enter Try.func28, Try.ntmps28
      go_wp2
      go_ret
      refine ⟨?_, rfl⟩
      rw [← unhide HR, unhide HB]
      simp [h]
      omega
  · have g : ¬ (k : Int) < (s.size : Int) := by omega
    go_enter Try.func28, Try.ntmps28
    go_wp2
    go_ret
    refine ⟨?_, rfl⟩
    rw [← unhide HR]
    simp [h]

theorem rletter_any (c : Nat) (w : World) (r : Bool) (hr : T.letter c = r) : Calls Try.prog 22 #[.int .u8 (c : Int)] w fun e w' => e = .returned (.bool r) ∧ w' = w := by
  have HR := hide hr
  clear hr
  have hc : c ≤ 47 ∨ (48 ≤ c ∧ c ≤ 57) ∨ (58 ≤ c ∧ c ≤ 64) ∨ (65 ≤ c ∧ c ≤ 90) ∨ (91 ≤ c ∧ c ≤ 96) ∨ (97 ≤ c ∧ c ≤ 122) ∨ (123 ≤ c ∧ c ≤ 127) ∨ 128 ≤ c := by omega
  rcases hc with hc | hc | hc | hc | hc | hc | hc | hc
  · have g2 : (c : Int) ≤ 47 := by omega
    have hl : T.letter c = false := by simp [T.letter]; omega
    have HL := hide hl
    clear hc hl
    go_enter Try.func22, Try.ntmps22
    go_wp2
    go_ret
    exact ⟨by rw [← unhide HR, unhide HL]; first | rfl | (simp; omega), rfl⟩
  · have g1 : (48 : Int) ≤ (c : Int) := by omega
    have g2 : (c : Int) ≤ 57 := by omega
    have hl : T.letter c = true := by simp [T.letter]; omega
    have HL := hide hl
    clear hc hl
    go_enter Try.func22, Try.ntmps22
    go_wp2
    go_ret
    exact ⟨by rw [← unhide HR, unhide HL]; first | rfl | (simp; omega), rfl⟩
  · have g1 : (58 : Int) ≤ (c : Int) := by omega
    have g2 : (c : Int) ≤ 64 := by omega
    have hl : T.letter c = false := by simp [T.letter]; omega
    have HL := hide hl
    clear hc hl
    go_enter Try.func22, Try.ntmps22
    go_wp2
    go_ret
    exact ⟨by rw [← unhide HR, unhide HL]; first | rfl | (simp; omega), rfl⟩
  · have g1 : (65 : Int) ≤ (c : Int) := by omega
    have g2 : (c : Int) ≤ 90 := by omega
    have hl : T.letter c = true := by simp [T.letter]; omega
    have HL := hide hl
    clear hc hl
    go_enter Try.func22, Try.ntmps22
    go_wp2
    go_ret
    exact ⟨by rw [← unhide HR, unhide HL]; first | rfl | (simp; omega), rfl⟩
  · have g1 : (91 : Int) ≤ (c : Int) := by omega
    have g2 : (c : Int) ≤ 96 := by omega
    have hl : T.letter c = false := by simp [T.letter]; omega
    have HL := hide hl
    clear hc hl
    go_enter Try.func22, Try.ntmps22
    go_wp2
    go_ret
    exact ⟨by rw [← unhide HR, unhide HL]; first | rfl | (simp; omega), rfl⟩
  · have g1 : (97 : Int) ≤ (c : Int) := by omega
    have g2 : (c : Int) ≤ 122 := by omega
    have hl : T.letter c = true := by simp [T.letter]; omega
    have HL := hide hl
    clear hc hl
    go_enter Try.func22, Try.ntmps22
    go_wp2
    go_ret
    exact ⟨by rw [← unhide HR, unhide HL]; first | rfl | (simp; omega), rfl⟩
  · have g1 : (123 : Int) ≤ (c : Int) := by omega
    have g2 : (c : Int) ≤ 127 := by omega
    have hl : T.letter c = false := by simp [T.letter]; omega
    have HL := hide hl
    clear hc hl
    go_enter Try.func22, Try.ntmps22
    go_wp2
    go_ret
    exact ⟨by rw [← unhide HR, unhide HL]; first | rfl | (simp; omega), rfl⟩
  · have g1 : (128 : Int) ≤ (c : Int) := by omega
    have hl : T.letter c = true := by simp [T.letter]; omega
    have HL := hide hl
    clear hc hl
    go_enter Try.func22, Try.ntmps22
    go_wp2
    go_ret
    exact ⟨by rw [← unhide HR, unhide HL]; first | rfl | (simp; omega), rfl⟩

/-- How many bytes a sign has, by its first one. -/
theorem sign_by (l : List UInt8) (b0 : Nat) (hb : T.byt l 0 = b0) (r1 r2 r3 : Bool) (h1 : T.inb l 1 (T.lo b0) (T.hi b0) = r1) (h2 : T.inb l 2 128 191 = r2) (h3 : T.inb l 3 128 191 = r3) :
    T.sign l = if T.more b0 = 0 then 1 else if T.more b0 = 1 then (if r1 = true then 2 else 0) else if T.more b0 = 2 then (if r1 = true ∧ r2 = true then 3 else 0) else if T.more b0 = 3 then (if r1 = true ∧ r2 = true ∧ r3 = true then 4 else 0) else 0 := by
  subst h1 h2 h3 hb
  unfold T.sign T.inb
  simp only [Bool.and_eq_true, decide_eq_true_eq]
  rcases T.more_cases (T.byt l 0) with ⟨m, q⟩ | ⟨m, q⟩ | ⟨m, q⟩ | ⟨m, q⟩ | ⟨m, q⟩
  all_goals
    rw [m]
    unfold T.signN
    (repeat' split) <;> omega

set_option maxRecDepth 1000000 in
set_option maxHeartbeats 2000000 in
theorem signB (s : ByteArray) (k : Nat) (w : World) (hk : k < s.size) (hs : s.size ≤ 9223372036854775000) (b : Nat) (r1 r2 r3 : Bool) (n : Nat)
    (H1 : Hid (T.inb (T.bs s) (k + 1) 128 191 = r1)) (H2 : Hid (T.inb (T.bs s) (k + 2) 128 191 = r2)) (H3 : Hid (T.inb (T.bs s) (k + 3) 128 191 = r3)) (HB : Hid (T.byt (T.bs s) k = b)) (g1 : (128 : Int) ≤ (b : Int)) (g2 : (b : Int) ≤ 193)
    (HN : Hid (n = 0)) :
    Calls Try.prog 24 #[.string s, .int .i64 (k : Int)] w fun e w' => e = .returned (.int .i64 (n : Int)) ∧ w' = w := by
  have hix : ∀ w : World, (Instr.index 9 (.string s) (.int .i64 (k : Int))).run Try.prog w = .ok (.int .u8 ((b : Nat) : Int)) w := fun w => Try.index_string s k hk w _ rfl _ (unhide HB)
  have q224 : ((b : Int) == 224) = false := by simp; omega
  have q237 : ((b : Int) == 237) = false := by simp; omega
  have q240 : ((b : Int) == 240) = false := by simp; omega
  have q244 : ((b : Int) == 244) = false := by simp; omega
  go_enter Try.func24, Try.ntmps24
  go_wp2_with fail
  refine (in_any s _ (k + 1) 128 191 (by omega) _ r1 (unhide H1)).mono ?_
  rintro e w1 ⟨rfl, rfl⟩
  go_wp2_with fail
  refine (in_any s _ (k + 2) 128 191 (by omega) _ r2 (unhide H2)).mono ?_
  rintro e w2 ⟨rfl, rfl⟩
  go_wp2_with fail
  refine (in_any s _ (k + 3) 128 191 (by omega) _ r3 (unhide H3)).mono ?_
  rintro e w3 ⟨rfl, rfl⟩
  all_goals
    go_wp2
    go_ret
    exact ⟨by rw [unhide HN]; rfl, rfl⟩

set_option maxRecDepth 1000000 in
set_option maxHeartbeats 2000000 in
theorem signC (s : ByteArray) (k : Nat) (w : World) (hk : k < s.size) (hs : s.size ≤ 9223372036854775000) (b : Nat) (r1 r2 r3 : Bool) (n : Nat)
    (H1 : Hid (T.inb (T.bs s) (k + 1) 128 191 = r1)) (H2 : Hid (T.inb (T.bs s) (k + 2) 128 191 = r2)) (H3 : Hid (T.inb (T.bs s) (k + 3) 128 191 = r3)) (HB : Hid (T.byt (T.bs s) k = b)) (g1 : (194 : Int) ≤ (b : Int)) (g2 : (b : Int) ≤ 223)
    (HN : Hid (n = if r1 = true then 2 else 0)) :
    Calls Try.prog 24 #[.string s, .int .i64 (k : Int)] w fun e w' => e = .returned (.int .i64 (n : Int)) ∧ w' = w := by
  have hix : ∀ w : World, (Instr.index 9 (.string s) (.int .i64 (k : Int))).run Try.prog w = .ok (.int .u8 ((b : Nat) : Int)) w := fun w => Try.index_string s k hk w _ rfl _ (unhide HB)
  have q224 : ((b : Int) == 224) = false := by simp; omega
  have q237 : ((b : Int) == 237) = false := by simp; omega
  have q240 : ((b : Int) == 240) = false := by simp; omega
  have q244 : ((b : Int) == 244) = false := by simp; omega
  go_enter Try.func24, Try.ntmps24
  go_wp2_with fail
  refine (in_any s _ (k + 1) 128 191 (by omega) _ r1 (unhide H1)).mono ?_
  rintro e w1 ⟨rfl, rfl⟩
  go_wp2_with fail
  refine (in_any s _ (k + 2) 128 191 (by omega) _ r2 (unhide H2)).mono ?_
  rintro e w2 ⟨rfl, rfl⟩
  go_wp2_with fail
  refine (in_any s _ (k + 3) 128 191 (by omega) _ r3 (unhide H3)).mono ?_
  rintro e w3 ⟨rfl, rfl⟩
  cases r1
  all_goals
    go_wp2
    go_ret
    exact ⟨by rw [unhide HN]; rfl, rfl⟩

set_option maxRecDepth 1000000 in
set_option maxHeartbeats 2000000 in
theorem signD (s : ByteArray) (k : Nat) (w : World) (hk : k < s.size) (hs : s.size ≤ 9223372036854775000) (r1 r2 r3 : Bool) (n : Nat)
    (H1 : Hid (T.inb (T.bs s) (k + 1) 160 191 = r1)) (H2 : Hid (T.inb (T.bs s) (k + 2) 128 191 = r2)) (H3 : Hid (T.inb (T.bs s) (k + 3) 128 191 = r3)) (HB : Hid (T.byt (T.bs s) k = 224))
    (HN : Hid (n = if r1 = true ∧ r2 = true then 3 else 0)) :
    Calls Try.prog 24 #[.string s, .int .i64 (k : Int)] w fun e w' => e = .returned (.int .i64 (n : Int)) ∧ w' = w := by
  have hix : ∀ w : World, (Instr.index 9 (.string s) (.int .i64 (k : Int))).run Try.prog w = .ok (.int .u8 ((224 : Nat) : Int)) w := fun w => Try.index_string s k hk w _ rfl _ (unhide HB)
  go_enter Try.func24, Try.ntmps24
  go_wp2_with fail
  refine (in_any s _ (k + 1) 160 191 (by omega) _ r1 (unhide H1)).mono ?_
  rintro e w1 ⟨rfl, rfl⟩
  go_wp2_with fail
  refine (in_any s _ (k + 2) 128 191 (by omega) _ r2 (unhide H2)).mono ?_
  rintro e w2 ⟨rfl, rfl⟩
  go_wp2_with fail
  refine (in_any s _ (k + 3) 128 191 (by omega) _ r3 (unhide H3)).mono ?_
  rintro e w3 ⟨rfl, rfl⟩
  cases r1 <;> cases r2
  all_goals
    go_wp2
    go_ret
    exact ⟨by rw [unhide HN]; rfl, rfl⟩

set_option maxRecDepth 1000000 in
set_option maxHeartbeats 2000000 in
theorem signE (s : ByteArray) (k : Nat) (w : World) (hk : k < s.size) (hs : s.size ≤ 9223372036854775000) (r1 r2 r3 : Bool) (n : Nat)
    (H1 : Hid (T.inb (T.bs s) (k + 1) 128 159 = r1)) (H2 : Hid (T.inb (T.bs s) (k + 2) 128 191 = r2)) (H3 : Hid (T.inb (T.bs s) (k + 3) 128 191 = r3)) (HB : Hid (T.byt (T.bs s) k = 237))
    (HN : Hid (n = if r1 = true ∧ r2 = true then 3 else 0)) :
    Calls Try.prog 24 #[.string s, .int .i64 (k : Int)] w fun e w' => e = .returned (.int .i64 (n : Int)) ∧ w' = w := by
  have hix : ∀ w : World, (Instr.index 9 (.string s) (.int .i64 (k : Int))).run Try.prog w = .ok (.int .u8 ((237 : Nat) : Int)) w := fun w => Try.index_string s k hk w _ rfl _ (unhide HB)
  go_enter Try.func24, Try.ntmps24
  go_wp2_with fail
  refine (in_any s _ (k + 1) 128 159 (by omega) _ r1 (unhide H1)).mono ?_
  rintro e w1 ⟨rfl, rfl⟩
  go_wp2_with fail
  refine (in_any s _ (k + 2) 128 191 (by omega) _ r2 (unhide H2)).mono ?_
  rintro e w2 ⟨rfl, rfl⟩
  go_wp2_with fail
  refine (in_any s _ (k + 3) 128 191 (by omega) _ r3 (unhide H3)).mono ?_
  rintro e w3 ⟨rfl, rfl⟩
  cases r1 <;> cases r2
  all_goals
    go_wp2
    go_ret
    exact ⟨by rw [unhide HN]; rfl, rfl⟩

set_option maxRecDepth 1000000 in
set_option maxHeartbeats 2000000 in
theorem signF (s : ByteArray) (k : Nat) (w : World) (hk : k < s.size) (hs : s.size ≤ 9223372036854775000) (b : Nat) (r1 r2 r3 : Bool) (n : Nat)
    (H1 : Hid (T.inb (T.bs s) (k + 1) 128 191 = r1)) (H2 : Hid (T.inb (T.bs s) (k + 2) 128 191 = r2)) (H3 : Hid (T.inb (T.bs s) (k + 3) 128 191 = r3)) (HB : Hid (T.byt (T.bs s) k = b)) (g1 : (225 : Int) ≤ (b : Int)) (g2 : (b : Int) ≤ 239) (g3 : ¬ b = 237)
    (HN : Hid (n = if r1 = true ∧ r2 = true then 3 else 0)) :
    Calls Try.prog 24 #[.string s, .int .i64 (k : Int)] w fun e w' => e = .returned (.int .i64 (n : Int)) ∧ w' = w := by
  have hix : ∀ w : World, (Instr.index 9 (.string s) (.int .i64 (k : Int))).run Try.prog w = .ok (.int .u8 ((b : Nat) : Int)) w := fun w => Try.index_string s k hk w _ rfl _ (unhide HB)
  have q224 : ((b : Int) == 224) = false := by simp; omega
  have q237 : ((b : Int) == 237) = false := by simp; omega
  have q240 : ((b : Int) == 240) = false := by simp; omega
  have q244 : ((b : Int) == 244) = false := by simp; omega
  go_enter Try.func24, Try.ntmps24
  go_wp2_with fail
  refine (in_any s _ (k + 1) 128 191 (by omega) _ r1 (unhide H1)).mono ?_
  rintro e w1 ⟨rfl, rfl⟩
  go_wp2_with fail
  refine (in_any s _ (k + 2) 128 191 (by omega) _ r2 (unhide H2)).mono ?_
  rintro e w2 ⟨rfl, rfl⟩
  go_wp2_with fail
  refine (in_any s _ (k + 3) 128 191 (by omega) _ r3 (unhide H3)).mono ?_
  rintro e w3 ⟨rfl, rfl⟩
  cases r1 <;> cases r2
  all_goals
    go_wp2
    go_ret
    exact ⟨by rw [unhide HN]; rfl, rfl⟩

set_option maxRecDepth 1000000 in
set_option maxHeartbeats 2000000 in
theorem signG (s : ByteArray) (k : Nat) (w : World) (hk : k < s.size) (hs : s.size ≤ 9223372036854775000) (r1 r2 r3 : Bool) (n : Nat)
    (H1 : Hid (T.inb (T.bs s) (k + 1) 144 191 = r1)) (H2 : Hid (T.inb (T.bs s) (k + 2) 128 191 = r2)) (H3 : Hid (T.inb (T.bs s) (k + 3) 128 191 = r3)) (HB : Hid (T.byt (T.bs s) k = 240))
    (HN : Hid (n = if r1 = true ∧ r2 = true ∧ r3 = true then 4 else 0)) :
    Calls Try.prog 24 #[.string s, .int .i64 (k : Int)] w fun e w' => e = .returned (.int .i64 (n : Int)) ∧ w' = w := by
  have hix : ∀ w : World, (Instr.index 9 (.string s) (.int .i64 (k : Int))).run Try.prog w = .ok (.int .u8 ((240 : Nat) : Int)) w := fun w => Try.index_string s k hk w _ rfl _ (unhide HB)
  go_enter Try.func24, Try.ntmps24
  go_wp2_with fail
  refine (in_any s _ (k + 1) 144 191 (by omega) _ r1 (unhide H1)).mono ?_
  rintro e w1 ⟨rfl, rfl⟩
  go_wp2_with fail
  refine (in_any s _ (k + 2) 128 191 (by omega) _ r2 (unhide H2)).mono ?_
  rintro e w2 ⟨rfl, rfl⟩
  go_wp2_with fail
  refine (in_any s _ (k + 3) 128 191 (by omega) _ r3 (unhide H3)).mono ?_
  rintro e w3 ⟨rfl, rfl⟩
  cases r1 <;> cases r2 <;> cases r3
  all_goals
    go_wp2
    go_ret
    exact ⟨by rw [unhide HN]; rfl, rfl⟩

set_option maxRecDepth 1000000 in
set_option maxHeartbeats 2000000 in
theorem signH (s : ByteArray) (k : Nat) (w : World) (hk : k < s.size) (hs : s.size ≤ 9223372036854775000) (r1 r2 r3 : Bool) (n : Nat)
    (H1 : Hid (T.inb (T.bs s) (k + 1) 128 143 = r1)) (H2 : Hid (T.inb (T.bs s) (k + 2) 128 191 = r2)) (H3 : Hid (T.inb (T.bs s) (k + 3) 128 191 = r3)) (HB : Hid (T.byt (T.bs s) k = 244))
    (HN : Hid (n = if r1 = true ∧ r2 = true ∧ r3 = true then 4 else 0)) :
    Calls Try.prog 24 #[.string s, .int .i64 (k : Int)] w fun e w' => e = .returned (.int .i64 (n : Int)) ∧ w' = w := by
  have hix : ∀ w : World, (Instr.index 9 (.string s) (.int .i64 (k : Int))).run Try.prog w = .ok (.int .u8 ((244 : Nat) : Int)) w := fun w => Try.index_string s k hk w _ rfl _ (unhide HB)
  go_enter Try.func24, Try.ntmps24
  go_wp2_with fail
  refine (in_any s _ (k + 1) 128 143 (by omega) _ r1 (unhide H1)).mono ?_
  rintro e w1 ⟨rfl, rfl⟩
  go_wp2_with fail
  refine (in_any s _ (k + 2) 128 191 (by omega) _ r2 (unhide H2)).mono ?_
  rintro e w2 ⟨rfl, rfl⟩
  go_wp2_with fail
  refine (in_any s _ (k + 3) 128 191 (by omega) _ r3 (unhide H3)).mono ?_
  rintro e w3 ⟨rfl, rfl⟩
  cases r1 <;> cases r2 <;> cases r3
  all_goals
    go_wp2
    go_ret
    exact ⟨by rw [unhide HN]; rfl, rfl⟩

set_option maxRecDepth 1000000 in
set_option maxHeartbeats 2000000 in
theorem signI (s : ByteArray) (k : Nat) (w : World) (hk : k < s.size) (hs : s.size ≤ 9223372036854775000) (b : Nat) (r1 r2 r3 : Bool) (n : Nat)
    (H1 : Hid (T.inb (T.bs s) (k + 1) 128 191 = r1)) (H2 : Hid (T.inb (T.bs s) (k + 2) 128 191 = r2)) (H3 : Hid (T.inb (T.bs s) (k + 3) 128 191 = r3)) (HB : Hid (T.byt (T.bs s) k = b)) (g1 : (241 : Int) ≤ (b : Int)) (g2 : (b : Int) ≤ 243)
    (HN : Hid (n = if r1 = true ∧ r2 = true ∧ r3 = true then 4 else 0)) :
    Calls Try.prog 24 #[.string s, .int .i64 (k : Int)] w fun e w' => e = .returned (.int .i64 (n : Int)) ∧ w' = w := by
  have hix : ∀ w : World, (Instr.index 9 (.string s) (.int .i64 (k : Int))).run Try.prog w = .ok (.int .u8 ((b : Nat) : Int)) w := fun w => Try.index_string s k hk w _ rfl _ (unhide HB)
  have q224 : ((b : Int) == 224) = false := by simp; omega
  have q237 : ((b : Int) == 237) = false := by simp; omega
  have q240 : ((b : Int) == 240) = false := by simp; omega
  have q244 : ((b : Int) == 244) = false := by simp; omega
  go_enter Try.func24, Try.ntmps24
  go_wp2_with fail
  refine (in_any s _ (k + 1) 128 191 (by omega) _ r1 (unhide H1)).mono ?_
  rintro e w1 ⟨rfl, rfl⟩
  go_wp2_with fail
  refine (in_any s _ (k + 2) 128 191 (by omega) _ r2 (unhide H2)).mono ?_
  rintro e w2 ⟨rfl, rfl⟩
  go_wp2_with fail
  refine (in_any s _ (k + 3) 128 191 (by omega) _ r3 (unhide H3)).mono ?_
  rintro e w3 ⟨rfl, rfl⟩
  cases r1 <;> cases r2 <;> cases r3
  all_goals
    go_wp2
    go_ret
    exact ⟨by rw [unhide HN]; rfl, rfl⟩

set_option maxRecDepth 1000000 in
set_option maxHeartbeats 2000000 in
theorem signJ (s : ByteArray) (k : Nat) (w : World) (hk : k < s.size) (hs : s.size ≤ 9223372036854775000) (b : Nat) (r1 r2 r3 : Bool) (n : Nat)
    (H1 : Hid (T.inb (T.bs s) (k + 1) 128 191 = r1)) (H2 : Hid (T.inb (T.bs s) (k + 2) 128 191 = r2)) (H3 : Hid (T.inb (T.bs s) (k + 3) 128 191 = r3)) (HB : Hid (T.byt (T.bs s) k = b)) (g1 : (245 : Int) ≤ (b : Int))
    (HN : Hid (n = 0)) :
    Calls Try.prog 24 #[.string s, .int .i64 (k : Int)] w fun e w' => e = .returned (.int .i64 (n : Int)) ∧ w' = w := by
  have hix : ∀ w : World, (Instr.index 9 (.string s) (.int .i64 (k : Int))).run Try.prog w = .ok (.int .u8 ((b : Nat) : Int)) w := fun w => Try.index_string s k hk w _ rfl _ (unhide HB)
  have q224 : ((b : Int) == 224) = false := by simp; omega
  have q237 : ((b : Int) == 237) = false := by simp; omega
  have q240 : ((b : Int) == 240) = false := by simp; omega
  have q244 : ((b : Int) == 244) = false := by simp; omega
  go_enter Try.func24, Try.ntmps24
  go_wp2_with fail
  refine (in_any s _ (k + 1) 128 191 (by omega) _ r1 (unhide H1)).mono ?_
  rintro e w1 ⟨rfl, rfl⟩
  go_wp2_with fail
  refine (in_any s _ (k + 2) 128 191 (by omega) _ r2 (unhide H2)).mono ?_
  rintro e w2 ⟨rfl, rfl⟩
  go_wp2_with fail
  refine (in_any s _ (k + 3) 128 191 (by omega) _ r3 (unhide H3)).mono ?_
  rintro e w3 ⟨rfl, rfl⟩
  all_goals
    go_wp2
    go_ret
    exact ⟨by rw [unhide HN]; rfl, rfl⟩

theorem sign_any (s : ByteArray) (k : Nat) (w : World) (hk : k < s.size) (hs : s.size ≤ 9223372036854775000) (n : Nat) (hn : T.sign ((T.bs s).drop k) = n) :
    Calls Try.prog 24 #[.string s, .int .i64 (k : Int)] w fun e w' => e = .returned (.int .i64 (n : Int)) ∧ w' = w := by
  obtain ⟨b, hb⟩ : ∃ b, T.byt (T.bs s) k = b := ⟨_, rfl⟩
  obtain ⟨r1, h1⟩ : ∃ r, T.inb (T.bs s) (k + 1) (T.lo b) (T.hi b) = r := ⟨_, rfl⟩
  obtain ⟨r2, h2⟩ : ∃ r, T.inb (T.bs s) (k + 2) 128 191 = r := ⟨_, rfl⟩
  obtain ⟨r3, h3⟩ : ∃ r, T.inb (T.bs s) (k + 3) 128 191 = r := ⟨_, rfl⟩
  have key := sign_by ((T.bs s).drop k) b (by rw [← T.byt_drop]; exact hb) r1 r2 r3 (by rw [← inb_drop]; exact h1) (by rw [← inb_drop]; exact h2) (by rw [← inb_drop]; exact h3)
  rw [hn] at key
  have hcl : b < 128 ∨ (128 ≤ b ∧ b ≤ 193) ∨ (194 ≤ b ∧ b ≤ 223) ∨ b = 224 ∨ b = 237 ∨ (225 ≤ b ∧ b ≤ 239 ∧ ¬ b = 237) ∨ b = 240 ∨ b = 244 ∨ (241 ≤ b ∧ b ≤ 243) ∨ 245 ≤ b := by omega
  have hlo : b ≠ 224 → b ≠ 240 → T.lo b = 128 := fun q1 q2 => by unfold T.lo; rw [if_neg q1, if_neg q2]
  have hhi : b ≠ 237 → b ≠ 244 → T.hi b = 191 := fun q1 q2 => by unfold T.hi; rw [if_neg q1, if_neg q2]
  rcases hcl with c | c | c | c | c | c | c | c | c | c
  · have hm : T.more b = 0 := by unfold T.more; rw [if_pos c]
    rw [hm] at key
    have HN : Hid (n = 1) := by show _ = _; simpa using key
    have hix : ∀ w : World, (Instr.index 9 (.string s) (.int .i64 (k : Int))).run Try.prog w = .ok (.int .u8 (b : Int)) w := fun w => Try.index_string s k hk w _ rfl _ hb
    have g : (b : Int) < 128 := by omega
    clear key hn h1 h2 h3 hb hm hlo hhi c
    go_enter Try.func24, Try.ntmps24
    go_wp2
    go_ret
    exact ⟨by rw [unhide HN]; rfl, rfl⟩
  · rw [hlo (by omega) (by omega), hhi (by omega) (by omega)] at h1
    have hm : T.more b = 4 := by unfold T.more; (repeat' split) <;> omega
    rw [hm] at key
    exact signB s k w hk hs b r1 r2 r3 n h1 h2 h3 hb (by omega) (by omega) (by show _ = _; simpa using key)
  · rw [hlo (by omega) (by omega), hhi (by omega) (by omega)] at h1
    have hm : T.more b = 1 := by unfold T.more; (repeat' split) <;> omega
    rw [hm] at key
    exact signC s k w hk hs b r1 r2 r3 n h1 h2 h3 hb (by omega) (by omega) (by show _ = _; simpa using key)
  · subst c
    have hm : T.more 224 = 2 := by decide
    rw [hm] at key
    exact signD s k w hk hs r1 r2 r3 n h1 h2 h3 hb (by show _ = _; simpa using key)
  · subst c
    have hm : T.more 237 = 2 := by decide
    rw [hm] at key
    exact signE s k w hk hs r1 r2 r3 n h1 h2 h3 hb (by show _ = _; simpa using key)
  · rw [hlo (by omega) (by omega), hhi (by omega) (by omega)] at h1
    have hm : T.more b = 2 := by unfold T.more; (repeat' split) <;> omega
    rw [hm] at key
    exact signF s k w hk hs b r1 r2 r3 n h1 h2 h3 hb (by omega) (by omega) c.2.2 (by show _ = _; simpa using key)
  · subst c
    have hm : T.more 240 = 3 := by decide
    rw [hm] at key
    exact signG s k w hk hs r1 r2 r3 n h1 h2 h3 hb (by show _ = _; simpa using key)
  · subst c
    have hm : T.more 244 = 3 := by decide
    rw [hm] at key
    exact signH s k w hk hs r1 r2 r3 n h1 h2 h3 hb (by show _ = _; simpa using key)
  · rw [hlo (by omega) (by omega), hhi (by omega) (by omega)] at h1
    have hm : T.more b = 3 := by unfold T.more; (repeat' split) <;> omega
    rw [hm] at key
    exact signI s k w hk hs b r1 r2 r3 n h1 h2 h3 hb (by omega) (by omega) (by show _ = _; simpa using key)
  · rw [hlo (by omega) (by omega), hhi (by omega) (by omega)] at h1
    have hm : T.more b = 4 := by unfold T.more; (repeat' split) <;> omega
    rw [hm] at key
    exact signJ s k w hk hs b r1 r2 r3 n h1 h2 h3 hb (by omega) (by show _ = _; simpa using key)
end Go.Proofs.Ytpmbgbahoinelaa
