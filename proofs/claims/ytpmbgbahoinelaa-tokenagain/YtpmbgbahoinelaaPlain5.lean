/-
  The plain mathematics of layer 5: which bytes are UTF-8, byte by byte and sign by sign; what the words of a text are. No program is named here.
-/
import Derived.Lib.DecodeN
import Derived.Laws.Cover4
import Derived.Laws.RangeAny
namespace Go.Proofs.Ytpmbgbahoinelaa
namespace T

/-- How many bytes follow a first byte; 4: it is none. -/
def more (c : Nat) : Nat := if c < 128 then 0 else if c < 194 then 4 else if c < 224 then 1 else if c < 240 then 2 else if c < 245 then 3 else 4
/-- The least and the greatest second byte. -/
def lo (c : Nat) : Nat := if c = 224 then 160 else if c = 240 then 144 else 128
def hi (c : Nat) : Nat := if c = 237 then 159 else if c = 244 then 143 else 191

theorem more_cases (c : Nat) : (more c = 0 ∧ c < 128) ∨ (more c = 1 ∧ 194 ≤ c ∧ c ≤ 223) ∨ (more c = 2 ∧ 224 ≤ c ∧ c ≤ 239) ∨ (more c = 3 ∧ 240 ≤ c ∧ c ≤ 244) ∨ (more c = 4 ∧ 128 ≤ c ∧ (c < 194 ∨ 245 ≤ c)) := by
  unfold more
  repeat' split
  all_goals omega
theorem lo_ge (c : Nat) : 128 ≤ lo c := by unfold lo; (repeat' split) <;> omega
theorem hi_le (c : Nat) : hi c ≤ 191 := by unfold hi; (repeat' split) <;> omega

/-- Is it UTF-8, if n bytes of a sign are still to come, the next one of them from x to y? -/
def ok : Nat → Nat → Nat → List UInt8 → Bool
  | 0, _, _, [] => true
  | _ + 1, _, _, [] => false
  | 0, _, _, b :: l => decide (more b.toNat < 4) && ok (more b.toNat) (lo b.toNat) (hi b.toNat) l
  | n + 1, x, y, b :: l => decide (x ≤ b.toNat) && decide (b.toNat ≤ y) && ok n 128 191 l

def valid (l : List UInt8) : Bool := ok 0 0 0 l

theorem ok_zero (x y : Nat) (l : List UInt8) : ok 0 x y l = valid l := by cases l <;> rfl
theorem valid_cons (b : UInt8) (l : List UInt8) : valid (b :: l) = (decide (more b.toNat < 4) && ok (more b.toNat) (lo b.toNat) (hi b.toNat) l) := rfl

def byt (l : List UInt8) (k : Nat) : Nat := (l.getD k 0).toNat
theorem byt_lt (l : List UInt8) (k : Nat) : byt l k < 256 := (l.getD k 0).toNat_lt

/-- How many bytes the sign has that begins b0 b1 b2 b3, of n bytes; 0: it is none. -/
def signN (n b0 b1 b2 b3 : Nat) : Nat :=
  if b0 < 128 then 1
  else if 194 ≤ b0 ∧ b0 ≤ 223 ∧ (1 < n ∧ lo b0 ≤ b1 ∧ b1 ≤ hi b0) then 2
  else if 224 ≤ b0 ∧ b0 ≤ 239 ∧ (1 < n ∧ lo b0 ≤ b1 ∧ b1 ≤ hi b0) ∧ (2 < n ∧ 128 ≤ b2 ∧ b2 ≤ 191) then 3
  else if 240 ≤ b0 ∧ b0 ≤ 244 ∧ (1 < n ∧ lo b0 ≤ b1 ∧ b1 ≤ hi b0) ∧ (2 < n ∧ 128 ≤ b2 ∧ b2 ≤ 191) ∧ (3 < n ∧ 128 ≤ b3 ∧ b3 ≤ 191) then 4
  else 0
def sign (l : List UInt8) : Nat := signN l.length (byt l 0) (byt l 1) (byt l 2) (byt l 3)

/-- What signN says, case by case. -/
theorem signN_cases (n b0 b1 b2 b3 : Nat) :
    (signN n b0 b1 b2 b3 = 1 ∧ b0 < 128) ∨
    (signN n b0 b1 b2 b3 = 2 ∧ 194 ≤ b0 ∧ b0 ≤ 223 ∧ (1 < n ∧ lo b0 ≤ b1 ∧ b1 ≤ hi b0)) ∨
    (signN n b0 b1 b2 b3 = 3 ∧ 224 ≤ b0 ∧ b0 ≤ 239 ∧ (1 < n ∧ lo b0 ≤ b1 ∧ b1 ≤ hi b0) ∧ (2 < n ∧ 128 ≤ b2 ∧ b2 ≤ 191)) ∨
    (signN n b0 b1 b2 b3 = 4 ∧ 240 ≤ b0 ∧ b0 ≤ 244 ∧ (1 < n ∧ lo b0 ≤ b1 ∧ b1 ≤ hi b0) ∧ (2 < n ∧ 128 ≤ b2 ∧ b2 ≤ 191) ∧ (3 < n ∧ 128 ≤ b3 ∧ b3 ≤ 191)) ∨
    (signN n b0 b1 b2 b3 = 0 ∧ 128 ≤ b0 ∧
      ¬ (194 ≤ b0 ∧ b0 ≤ 223 ∧ (1 < n ∧ lo b0 ≤ b1 ∧ b1 ≤ hi b0)) ∧
      ¬ (224 ≤ b0 ∧ b0 ≤ 239 ∧ (1 < n ∧ lo b0 ≤ b1 ∧ b1 ≤ hi b0) ∧ (2 < n ∧ 128 ≤ b2 ∧ b2 ≤ 191)) ∧
      ¬ (240 ≤ b0 ∧ b0 ≤ 244 ∧ (1 < n ∧ lo b0 ≤ b1 ∧ b1 ≤ hi b0) ∧ (2 < n ∧ 128 ≤ b2 ∧ b2 ≤ 191) ∧ (3 < n ∧ 128 ≤ b3 ∧ b3 ≤ 191))) := by
  unfold signN
  by_cases h1 : b0 < 128
  · rw [if_pos h1]; omega
  rw [if_neg h1]
  by_cases h2 : 194 ≤ b0 ∧ b0 ≤ 223 ∧ (1 < n ∧ lo b0 ≤ b1 ∧ b1 ≤ hi b0)
  · rw [if_pos h2]; omega
  rw [if_neg h2]
  by_cases h3 : 224 ≤ b0 ∧ b0 ≤ 239 ∧ (1 < n ∧ lo b0 ≤ b1 ∧ b1 ≤ hi b0) ∧ (2 < n ∧ 128 ≤ b2 ∧ b2 ≤ 191)
  · rw [if_pos h3]; omega
  rw [if_neg h3]
  by_cases h4 : 240 ≤ b0 ∧ b0 ≤ 244 ∧ (1 < n ∧ lo b0 ≤ b1 ∧ b1 ≤ hi b0) ∧ (2 < n ∧ 128 ≤ b2 ∧ b2 ≤ 191) ∧ (3 < n ∧ 128 ≤ b3 ∧ b3 ≤ 191)
  · rw [if_pos h4]; omega
  rw [if_neg h4]
  exact .inr (.inr (.inr (.inr ⟨rfl, by omega, h2, h3, h4⟩)))

theorem sign_le (l : List UInt8) : sign l ≤ 4 := by
  unfold sign
  rcases signN_cases l.length (byt l 0) (byt l 1) (byt l 2) (byt l 3) with h | h | h | h | h <;> omega
theorem sign_le_len (l : List UInt8) (h : l ≠ []) : sign l ≤ l.length := by
  have : 1 ≤ l.length := by cases l with | nil => exact absurd rfl h | cons => simp
  unfold sign
  rcases signN_cases l.length (byt l 0) (byt l 1) (byt l 2) (byt l 3) with h | h | h | h | h <;> omega

/-- Byte by byte, or sign by sign: the same. -/
theorem valid_sign (l : List UInt8) (hl : l ≠ []) : valid l = (decide (sign l ≠ 0) && valid (l.drop (sign l))) := by
  unfold sign
  rcases signN_cases l.length (byt l 0) (byt l 1) (byt l 2) (byt l 3) with ⟨e, h⟩ | ⟨e, h⟩ | ⟨e, h⟩ | ⟨e, h⟩ | ⟨e, h⟩
  · match l, hl with
    | b0 :: r, _ =>
      simp only [byt, List.getD_cons_zero] at h
      rw [e]
      rcases more_cases b0.toNat with m | m | m | m | m
      · simp [valid_cons, m.1, ok_zero]
      all_goals omega
  · match l, hl with
    | [b0], _ => simp at h
    | b0 :: b1 :: r, _ =>
      simp only [byt, List.getD_cons_zero, List.getD_cons_succ] at h
      rw [e]
      rcases more_cases b0.toNat with m | m | m | m | m
      · omega
      · simp [valid_cons, m.1, ok, h, ok_zero]
      all_goals omega
  · match l, hl with
    | [b0], _ => simp at h
    | [b0, b1], _ => simp at h
    | b0 :: b1 :: b2 :: r, _ =>
      simp only [byt, List.getD_cons_zero, List.getD_cons_succ] at h
      rw [e]
      rcases more_cases b0.toNat with m | m | m | m | m
      · omega
      · omega
      · simp [valid_cons, m.1, ok, h, ok_zero]
      all_goals omega
  · match l, hl with
    | [b0], _ => simp at h
    | [b0, b1], _ => simp at h
    | [b0, b1, b2], _ => simp at h
    | b0 :: b1 :: b2 :: b3 :: r, _ =>
      simp only [byt, List.getD_cons_zero, List.getD_cons_succ] at h
      rw [e]
      rcases more_cases b0.toNat with m | m | m | m | m
      · omega
      · omega
      · omega
      · simp [valid_cons, m.1, ok, h, ok_zero]
      all_goals omega
  · rw [e]
    simp only [ne_eq, not_true_eq_false, decide_false, Bool.false_and]
    match l, hl with
    | b0 :: r, _ =>
      have hb : byt (b0 :: r) 0 = b0.toNat := rfl
      rw [hb] at h
      rcases more_cases b0.toNat with m | m | m | m | m
      · omega
      · match r with
        | [] => simp [valid_cons, m.1, ok]
        | b1 :: r =>
          simp only [byt, List.getD_cons_zero, List.getD_cons_succ, List.length_cons] at h
          have : ¬ (lo b0.toNat ≤ b1.toNat ∧ b1.toNat ≤ hi b0.toNat) := fun q => h.2.1 ⟨by omega, by omega, by omega, q.1, q.2⟩
          simp [valid_cons, m.1, ok]
          intro q1 q2
          omega
      · match r with
        | [] => simp [valid_cons, m.1, ok]
        | [b1] => simp [valid_cons, m.1, ok]
        | b1 :: b2 :: r =>
          simp only [byt, List.getD_cons_zero, List.getD_cons_succ, List.length_cons] at h
          have : ¬ ((lo b0.toNat ≤ b1.toNat ∧ b1.toNat ≤ hi b0.toNat) ∧ 128 ≤ b2.toNat ∧ b2.toNat ≤ 191) := fun q => h.2.2.1 ⟨by omega, by omega, ⟨by omega, q.1.1, q.1.2⟩, by omega, q.2.1, q.2.2⟩
          simp [valid_cons, m.1, ok]
          intro q1 q2 q3 q4
          omega
      · match r with
        | [] => simp [valid_cons, m.1, ok]
        | [b1] => simp [valid_cons, m.1, ok]
        | [b1, b2] => simp [valid_cons, m.1, ok]
        | b1 :: b2 :: b3 :: r =>
          simp only [byt, List.getD_cons_zero, List.getD_cons_succ, List.length_cons] at h
          have : ¬ ((lo b0.toNat ≤ b1.toNat ∧ b1.toNat ≤ hi b0.toNat) ∧ (128 ≤ b2.toNat ∧ b2.toNat ≤ 191) ∧ 128 ≤ b3.toNat ∧ b3.toNat ≤ 191) := fun q => h.2.2.2 ⟨by omega, by omega, ⟨by omega, q.1.1, q.1.2⟩, ⟨by omega, q.2.1.1, q.2.1.2⟩, by omega, q.2.2.1, q.2.2.2⟩
          simp [valid_cons, m.1, ok]
          intro q1 q2 q3 q4 q5 q6
          omega
      · simp [valid_cons, m.1]

/-! ### What the model's own decoding tells -/
theorem get_byt (s : ByteArray) (i : Nat) : (s.get! i).toNat = byt s.data.toList i := by
  unfold byt
  congr 1
  show s.data[i]! = _
  simp [getElem!_def, List.getD]
  cases h : s.data[i]? <;> rfl

theorem byt_drop (l : List UInt8) (i k : Nat) : byt l (i + k) = byt (l.drop i) k := by
  unfold byt
  simp [List.getD, List.getElem?_drop]

theorem decode_drop (s : ByteArray) (i : Nat) : Utf8.decode s i = Lib.decodeN (s.data.toList.drop i).length (byt (s.data.toList.drop i) 0) (byt (s.data.toList.drop i) 1) (byt (s.data.toList.drop i) 2) (byt (s.data.toList.drop i) 3) := by
  rw [Lib.decode_at, get_byt, get_byt, get_byt, get_byt, ← byt_drop, ← byt_drop, ← byt_drop, ← byt_drop]
  simp only [List.length_drop, Array.length_toList, Nat.add_zero]
  rfl
end T
end Go.Proofs.Ytpmbgbahoinelaa
