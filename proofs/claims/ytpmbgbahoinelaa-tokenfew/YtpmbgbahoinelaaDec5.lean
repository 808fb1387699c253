/-
  What the model's decoding tells of a sign, held against the document's: its width, its bytes again, and the sign that stands for a fault.
-/
import Derived.Test.YtpmbgbahoinelaaPlain5
namespace Go.Proofs.Ytpmbgbahoinelaa
namespace T

/-- No sign: the fault's rune, one byte wide. -/
theorem dec_none {n b0 b1 b2 b3 : Nat} (h0 : b0 < 256) (h1 : b1 < 256) (h2 : b2 < 256) (h3 : b3 < 256) (h : signN n b0 b1 b2 b3 = 0) : Lib.decodeN n b0 b1 b2 b3 = (65533, 1) := by
  rcases signN_cases n b0 b1 b2 b3 with ⟨e, q⟩ | ⟨e, q⟩ | ⟨e, q⟩ | ⟨e, q⟩ | ⟨e, q1, q2, q3, q4⟩
  · omega
  · omega
  · omega
  · omega
  · unfold Lib.decodeN
    unfold lo hi at q2 q3 q4
    repeat' split
    all_goals first | rfl | (exfalso; (repeat' split at q2) <;> omega) | (exfalso; (repeat' split at q3) <;> omega) | (exfalso; (repeat' split at q4) <;> omega)

theorem dec_one {n b0 b1 b2 b3 : Nat} (h : b0 < 128) : Lib.decodeN n b0 b1 b2 b3 = (b0, 1) := by
  unfold Lib.decodeN
  rw [if_pos h]

theorem dec_two {n b0 b1 b2 b3 : Nat} (h : 194 ≤ b0 ∧ b0 ≤ 223 ∧ (1 < n ∧ lo b0 ≤ b1 ∧ b1 ≤ hi b0)) : Lib.decodeN n b0 b1 b2 b3 = (b0 % 32 * 64 + b1 % 64, 2) ∧ 128 ≤ b1 ∧ b1 ≤ 191 := by
  have := lo_ge b0
  have := hi_le b0
  unfold Lib.decodeN
  rw [if_neg (by omega), if_pos (by omega), if_pos (by omega)]
  exact ⟨rfl, by omega, by omega⟩

theorem dec_three {n b0 b1 b2 b3 : Nat} (h : 224 ≤ b0 ∧ b0 ≤ 239 ∧ (1 < n ∧ lo b0 ≤ b1 ∧ b1 ≤ hi b0) ∧ (2 < n ∧ 128 ≤ b2 ∧ b2 ≤ 191)) :
    Lib.decodeN n b0 b1 b2 b3 = (b0 % 16 * 4096 + b1 % 64 * 64 + b2 % 64, 3) ∧ 128 ≤ b1 ∧ b1 ≤ 191 ∧ 2048 ≤ b0 % 16 * 4096 + b1 % 64 * 64 + b2 % 64 ∧ (b0 % 16 * 4096 + b1 % 64 * 64 + b2 % 64 < 55296 ∨ 57344 ≤ b0 % 16 * 4096 + b1 % 64 * 64 + b2 % 64) := by
  have h1 := lo_ge b0
  have h2 := hi_le b0
  have h3 : 2048 ≤ b0 % 16 * 4096 + b1 % 64 * 64 + b2 % 64 := by
    by_cases e : b0 = 224
    · have : lo b0 = 160 := by unfold lo; rw [if_pos e]
      omega
    · omega
  have h4 : b0 % 16 * 4096 + b1 % 64 * 64 + b2 % 64 < 55296 ∨ 57344 ≤ b0 % 16 * 4096 + b1 % 64 * 64 + b2 % 64 := by
    by_cases e : b0 = 237
    · have : hi b0 = 159 := by unfold hi; rw [if_pos e]
      omega
    · omega
  unfold Lib.decodeN
  rw [if_neg (by omega), if_neg (by omega), if_pos (by omega), if_pos (by omega)]
  exact ⟨rfl, by omega, by omega, h3, h4⟩

theorem dec_four {n b0 b1 b2 b3 : Nat} (h : 240 ≤ b0 ∧ b0 ≤ 244 ∧ (1 < n ∧ lo b0 ≤ b1 ∧ b1 ≤ hi b0) ∧ (2 < n ∧ 128 ≤ b2 ∧ b2 ≤ 191) ∧ (3 < n ∧ 128 ≤ b3 ∧ b3 ≤ 191)) :
    Lib.decodeN n b0 b1 b2 b3 = (b0 % 8 * 262144 + b1 % 64 * 4096 + b2 % 64 * 64 + b3 % 64, 4) ∧ 128 ≤ b1 ∧ b1 ≤ 191 ∧ 65536 ≤ b0 % 8 * 262144 + b1 % 64 * 4096 + b2 % 64 * 64 + b3 % 64 ∧ b0 % 8 * 262144 + b1 % 64 * 4096 + b2 % 64 * 64 + b3 % 64 ≤ 1114111 := by
  have h1 := lo_ge b0
  have h2 := hi_le b0
  have h3 : 65536 ≤ b0 % 8 * 262144 + b1 % 64 * 4096 + b2 % 64 * 64 + b3 % 64 := by
    by_cases e : b0 = 240
    · have : lo b0 = 144 := by unfold lo; rw [if_neg (by omega), if_pos e]
      omega
    · omega
  have h4 : b0 % 8 * 262144 + b1 % 64 * 4096 + b2 % 64 * 64 + b3 % 64 ≤ 1114111 := by
    by_cases e : b0 = 244
    · have : hi b0 = 143 := by unfold hi; rw [if_neg (by omega), if_pos e]
      omega
    · omega
  unfold Lib.decodeN
  rw [if_neg (by omega), if_neg (by omega), if_neg (by omega), if_pos (by omega), if_pos (by omega)]
  exact ⟨rfl, by omega, by omega, h3, h4⟩

/-- The bytes that stand for a fault. -/
def fault : List UInt8 := [239, 191, 189]

theorem take_byt {l : List UInt8} {k : Nat} (h : k < l.length) : l.getD k 0 = l[k] := by simp [List.getD, h]
theorem byt_ofNat (l : List UInt8) (k n : Nat) (h : n = byt l k) : UInt8.ofNat n = l.getD k 0 := by
  rw [h]
  unfold byt
  simp

theorem take1 {l : List UInt8} (h : 0 < l.length) : l.take 1 = [l.getD 0 0] := by
  match l, h with
  | a :: r, _ => simp
theorem take2 {l : List UInt8} (h : 1 < l.length) : l.take 2 = [l.getD 0 0, l.getD 1 0] := by
  match l, h with
  | a :: b :: r, _ => simp
theorem take3 {l : List UInt8} (h : 2 < l.length) : l.take 3 = [l.getD 0 0, l.getD 1 0, l.getD 2 0] := by
  match l, h with
  | a :: b :: c :: r, _ => simp
theorem take4 {l : List UInt8} (h : 3 < l.length) : l.take 4 = [l.getD 0 0, l.getD 1 0, l.getD 2 0, l.getD 3 0] := by
  match l, h with
  | a :: b :: c :: d :: r, _ => simp

/-- What a decoding tells of bytes l: its rune, its width. -/
def dec (l : List UInt8) : Nat × Nat := Lib.decodeN l.length (byt l 0) (byt l 1) (byt l 2) (byt l 3)

theorem decode_dec (s : ByteArray) (i : Nat) : Utf8.decode s i = dec (s.data.toList.drop i) := decode_drop s i

theorem fault_byt {l : List UInt8} (h : l.take 3 = fault) : 2 < l.length ∧ byt l 0 = 239 ∧ byt l 1 = 191 ∧ byt l 2 = 189 := by
  match l, h with
  | [], h => simp [fault] at h
  | [a], h => simp [fault] at h
  | [a, b], h => simp [fault] at h
  | a :: b :: c :: r, h =>
    simp [fault] at h
    obtain ⟨rfl, rfl, rfl⟩ := h
    simp [byt]

theorem dec_bad {l : List UInt8} (h : sign l = 0) : dec l = (65533, 1) ∧ l.take 3 ≠ fault := by
  refine ⟨dec_none (byt_lt _ _) (byt_lt _ _) (byt_lt _ _) (byt_lt _ _) h, fun hf => ?_⟩
  obtain ⟨hl, e0, e1, e2⟩ := fault_byt hf
  unfold sign at h
  rcases signN_cases l.length (byt l 0) (byt l 1) (byt l 2) (byt l 3) with ⟨e, q⟩ | ⟨e, q⟩ | ⟨e, q⟩ | ⟨e, q⟩ | ⟨e, q1, q2, q3, q4⟩
  · omega
  · omega
  · omega
  · omega
  · have h1 : lo (byt l 0) = 128 := by rw [e0]; rfl
    have h2 : hi (byt l 0) = 191 := by rw [e0]; rfl
    exact q3 ⟨by omega, by omega, ⟨by omega, by omega, by omega⟩, by omega, by omega, by omega⟩

/-- A sign: its width; the fault's own rune only of its own bytes. -/
theorem dec_good {l : List UInt8} (h : sign l ≠ 0) : (dec l).2 = sign l ∧ ((dec l).1 = 65533 → l.take 3 = fault) := by
  have h0 := byt_lt l 0
  have h1 := byt_lt l 1
  have h2 := byt_lt l 2
  have h3 := byt_lt l 3
  unfold dec
  unfold sign at h ⊢
  rcases signN_cases l.length (byt l 0) (byt l 1) (byt l 2) (byt l 3) with ⟨e, q⟩ | ⟨e, q⟩ | ⟨e, q⟩ | ⟨e, q⟩ | ⟨e, q⟩
  · rw [dec_one q, e]
    exact ⟨rfl, fun (c : byt l 0 = 65533) => by omega⟩
  · obtain ⟨d, _, _⟩ := dec_two (b2 := byt l 2) (b3 := byt l 3) q
    rw [d, e]
    exact ⟨rfl, fun (c : byt l 0 % 32 * 64 + byt l 1 % 64 = 65533) => by omega⟩
  · obtain ⟨d, _, _, _, _⟩ := dec_three (b3 := byt l 3) q
    rw [d, e]
    refine ⟨rfl, fun (c : byt l 0 % 16 * 4096 + byt l 1 % 64 * 64 + byt l 2 % 64 = 65533) => ?_⟩
    rw [take3 (by omega), ← byt_ofNat l 0 239 (by omega), ← byt_ofNat l 1 191 (by omega), ← byt_ofNat l 2 189 (by omega)]
    rfl
  · obtain ⟨d, _, _, _, _⟩ := dec_four q
    rw [d, e]
    exact ⟨rfl, fun (c : byt l 0 % 8 * 262144 + byt l 1 % 64 * 4096 + byt l 2 % 64 * 64 + byt l 3 % 64 = 65533) => by omega⟩
  · exact absurd e h

theorem enc_ascii (c : Nat) (h : c < 128) : Utf8.encode (c : Int) = ⟨#[UInt8.ofNat c]⟩ := by
  have hv : Utf8.valid (c : Int) = true := by simp [Utf8.valid]; omega
  unfold Utf8.encode
  simp only [hv, if_true, Int.toNat_natCast]
  rw [if_pos h]

/-- A sign of more than one byte: its rune is 128 or more, and has just these bytes again, all of them 128 or more. -/
theorem dec_enc {l : List UInt8} (h : sign l ≠ 0) (h128 : ¬ byt l 0 < 128) :
    128 ≤ (dec l).1 ∧ (Utf8.encode ((dec l).1 : Int)).data.toList = l.take (sign l) ∧ ∀ b ∈ l.take (sign l), 128 ≤ b.toNat := by
  have h0 := byt_lt l 0
  unfold dec
  unfold sign at h ⊢
  rcases signN_cases l.length (byt l 0) (byt l 1) (byt l 2) (byt l 3) with ⟨e, q⟩ | ⟨e, q⟩ | ⟨e, q⟩ | ⟨e, q⟩ | ⟨e, q⟩
  · omega
  · obtain ⟨d, r1, r2⟩ := dec_two (b2 := byt l 2) (b3 := byt l 3) q
    rw [d, e]
    dsimp only
    refine ⟨by omega, ?_, ?_⟩
    · have hv : Utf8.valid ((byt l 0 % 32 * 64 + byt l 1 % 64 : Nat) : Int) = true := by simp only [Utf8.valid, Bool.or_eq_true, Bool.and_eq_true, decide_eq_true_eq]; omega
      unfold Utf8.encode
      simp only [hv, if_true, Int.toNat_natCast]
      rw [if_neg (by omega), if_pos (by omega), take2 (by omega), byt_ofNat l 0 _ (by omega), byt_ofNat l 1 _ (by omega)]
    · rw [take2 (by omega)]
      simp only [List.mem_cons, List.not_mem_nil, or_false, forall_eq_or_imp, forall_eq]
      exact ⟨show 128 ≤ byt l 0 by omega, r1⟩
  · obtain ⟨d, r1, r2, r3, r4⟩ := dec_three (b3 := byt l 3) q
    rw [d, e]
    dsimp only
    refine ⟨by omega, ?_, ?_⟩
    · have hv : Utf8.valid ((byt l 0 % 16 * 4096 + byt l 1 % 64 * 64 + byt l 2 % 64 : Nat) : Int) = true := by simp only [Utf8.valid, Bool.or_eq_true, Bool.and_eq_true, decide_eq_true_eq]; omega
      unfold Utf8.encode
      simp only [hv, if_true, Int.toNat_natCast]
      rw [if_neg (by omega), if_neg (by omega), if_pos (by omega), take3 (by omega), byt_ofNat l 0 _ (by omega), byt_ofNat l 1 _ (by omega), byt_ofNat l 2 _ (by omega)]
    · rw [take3 (by omega)]
      simp only [List.mem_cons, List.not_mem_nil, or_false, forall_eq_or_imp, forall_eq]
      exact ⟨show 128 ≤ byt l 0 by omega, r1, q.2.2.2.2.1⟩
  · obtain ⟨d, r1, r2, r3, r4⟩ := dec_four q
    rw [d, e]
    dsimp only
    refine ⟨by omega, ?_, ?_⟩
    · have hv : Utf8.valid ((byt l 0 % 8 * 262144 + byt l 1 % 64 * 4096 + byt l 2 % 64 * 64 + byt l 3 % 64 : Nat) : Int) = true := by simp only [Utf8.valid, Bool.or_eq_true, Bool.and_eq_true, decide_eq_true_eq]; omega
      unfold Utf8.encode
      simp only [hv, if_true, Int.toNat_natCast]
      rw [if_neg (by omega), if_neg (by omega), if_neg (by omega), take4 (by omega), byt_ofNat l 0 _ (by omega), byt_ofNat l 1 _ (by omega), byt_ofNat l 2 _ (by omega), byt_ofNat l 3 _ (by omega)]
    · rw [take4 (by omega)]
      simp only [List.mem_cons, List.not_mem_nil, or_false, forall_eq_or_imp, forall_eq]
      exact ⟨show 128 ≤ byt l 0 by omega, r1, q.2.2.2.1.2.1, q.2.2.2.2.2.1⟩
  · exact absurd e h

theorem dec_ascii {l : List UInt8} (h : byt l 0 < 128) : dec l = (byt l 0, 1) ∧ sign l = 1 := ⟨dec_one h, by unfold sign signN; rw [if_pos h]⟩
end T
end Go.Proofs.Ytpmbgbahoinelaa
