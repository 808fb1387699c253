/-
  The sum laid over: of rows that are laid over one another the sum is that of theirs; bytes within four in a row that are other ones turn it. Plain mathematics; no program is named here.
-/
import Derived.Test.YtfffjolodilhoaaCrc
namespace Go.Proofs.Ytfffjolodilhoaa.C

def dig : Nat → Nat → List Int
  | 0, _ => []
  | m + 1, t => ((t % 256 : Nat) : Int) :: dig m (t / 256)

theorem bit_xor (a b : Nat) : bit (a ^^^ b) = bit a ^^^ bit b := by
  have hm := Nat.xor_mod_two_eq_one (a := a) (b := b)
  have hd : (a ^^^ b) / 2 = a / 2 ^^^ b / 2 := Nat.xor_div_two
  unfold bit
  rw [hd]
  by_cases ha : a % 2 = 1
  · by_cases hb : b % 2 = 1
    · rw [if_neg (by rw [hm]; simp [ha, hb]), if_pos ha, if_pos hb]
      rw [Nat.xor_assoc, Nat.xor_comm 2197175160, Nat.xor_assoc (b / 2), Nat.xor_self, Nat.xor_zero]
    · rw [if_pos (by rw [hm]; simp [ha, hb]), if_pos ha, if_neg hb]
      rw [Nat.xor_assoc, Nat.xor_assoc, Nat.xor_comm 2197175160]
  · by_cases hb : b % 2 = 1
    · rw [if_pos (by rw [hm]; simp [ha, hb]), if_neg ha, if_pos hb]
      rw [Nat.xor_assoc]
    · rw [if_neg (by rw [hm]; simp [ha, hb]), if_neg ha, if_neg hb]

theorem step_xor : ∀ (k a b : Nat), step k (a ^^^ b) = step k a ^^^ step k b
  | 0, _, _ => rfl
  | k + 1, a, b => by rw [step, step, step, bit_xor, step_xor k]

theorem step_add : ∀ (j k s : Nat), step (j + k) s = step j (step k s)
  | j, 0, _ => rfl
  | j, k + 1, s => by rw [show j + (k + 1) = (j + k) + 1 by omega, step, step, step_add j k]

theorem step_two : ∀ (k t : Nat), step k (2 ^ k * t) = t
  | 0, t => by simp [step]
  | k + 1, t => by
    have h : bit (2 ^ (k + 1) * t) = 2 ^ k * t := by
      have e : 2 ^ (k + 1) * t = 2 * (2 ^ k * t) := by rw [Nat.pow_succ]; rw [Nat.mul_comm (2 ^ k) 2, Nat.mul_assoc]
      unfold bit
      rw [e, if_neg (by omega)]
      omega
    rw [step, h, step_two k]

theorem step_zero : ∀ k : Nat, step k 0 = 0
  | 0 => rfl
  | k + 1 => by rw [step, show bit 0 = 0 from rfl, step_zero k]

theorem bit_null {t : Nat} (ht : t < 4294967296) (h : bit t = 0) : t = 0 := by
  unfold bit at h
  split at h
  · have h2 : t / 2 = 2197175160 := by
      have h3 := congrArg (fun z => z ^^^ 2197175160) h
      simpa only [Nat.xor_assoc, Nat.xor_self, Nat.xor_zero, Nat.zero_xor] using h3
    omega
  · omega

theorem step_null : ∀ (k t : Nat), t < 4294967296 → step k t = 0 → t = 0
  | 0, _, _, h => h
  | k + 1, t, ht, h => bit_null ht (step_null k (bit t) (bit_lt ht) h)

/-- A number is its lowest eight bits and the rest. -/
theorem parts (t : Nat) : t % 256 ^^^ 256 * (t / 256) = t := by
  apply Nat.eq_of_testBit_eq
  intro i
  rw [Nat.testBit_xor, show 256 = 2 ^ 8 from rfl, Nat.testBit_mod_two_pow, Nat.testBit_two_pow_mul, Nat.testBit_div_two_pow]
  by_cases h : i < 8
  · simp [h, show ¬ 8 ≤ i by omega]
  · simp [h, show 8 ≤ i by omega]

theorem byte_parts (s t : Nat) : byte s ((t % 256 : Nat) : Int) ^^^ t / 256 = step 8 (s ^^^ t) := by
  have h := step_two 8 (t / 256)
  conv => lhs; rw [← h]
  unfold byte
  rw [Int.toNat_natCast, ← step_xor, Nat.xor_assoc, show (2 : Nat) ^ 8 = 256 from rfl, parts]

/-- The bytes of a number, handed over one by one, are the number laid over the sum at once. -/
theorem fold_dig : ∀ (m s t : Nat), fold s (dig m t) ^^^ t / 256 ^ m = step (8 * m) (s ^^^ t)
  | 0, s, t => by simp [dig, fold, step]
  | m + 1, s, t => by
    have ih := fold_dig m (byte s ((t % 256 : Nat) : Int)) (t / 256)
    rw [dig, fold_cons, Nat.pow_succ, Nat.mul_comm (256 ^ m), ← Nat.div_div_eq_div_mul, ih, byte_parts, show 8 * (m + 1) = 8 * m + 8 by omega, step_add]

theorem not_xor {a : Nat} (ha : a < 4294967296) : 4294967295 - a = 4294967295 ^^^ a := by
  have h1 : (BitVec.allOnes 32 ^^^ BitVec.ofNat 32 a).toNat = (~~~ BitVec.ofNat 32 a).toNat := by rw [BitVec.allOnes_xor]
  rw [BitVec.toNat_xor, BitVec.toNat_not, BitVec.toNat_allOnes, BitVec.toNat_ofNat, Nat.mod_eq_of_lt (by omega)] at h1
  simpa using h1.symm

/-- All bytes of a row with its sum behind it leave the same. -/
theorem fold_whole {l : List Int} (hb : V.Byt l) : fold 4294967295 (l ++ dig 4 (sum l)) = step 32 4294967295 := by
  have hl := fold_lt l 4294967295 hb (by omega)
  have hs := sum_lt l
  have h := fold_dig 4 (fold 4294967295 l) (sum l)
  rw [show sum l / 256 ^ 4 = 0 from Nat.div_eq_of_lt (by omega), Nat.xor_zero] at h
  rw [fold_app, h, sum, not_xor hl, Nat.xor_comm 4294967295, ← Nat.xor_assoc, Nat.xor_self, Nat.zero_xor]

/-- A sum that is begun with more: what is more goes through. -/
theorem fold_from : ∀ (l : List Int) (s d : Nat), fold (s ^^^ d) l = fold s l ^^^ step (8 * l.length) d
  | [], _, _ => rfl
  | c :: r, s, d => by
    have h : byte (s ^^^ d) c = byte s c ^^^ step 8 d := by
      unfold byte
      rw [← step_xor, Nat.xor_assoc, Nat.xor_comm d, ← Nat.xor_assoc]
    rw [fold_cons, h, fold_from r, ← step_add, fold_cons]
    rfl

/-- One byte laid over another one. -/
def x2 (a b : Int) : Int := ((a.toNat ^^^ b.toNat : Nat) : Int)

theorem byte_x2 (s : Nat) (c e : Int) : byte s (x2 c e) = byte s c ^^^ step 8 e.toNat := by
  unfold byte x2
  rw [Int.toNat_natCast, ← Nat.xor_assoc, step_xor]

theorem x2_byt {a b : Int} (ha : 0 ≤ a ∧ a ≤ 255) (hb : 0 ≤ b ∧ b ≤ 255) : 0 ≤ x2 a b ∧ x2 a b ≤ 255 := by
  have h : a.toNat ^^^ b.toNat < 2 ^ 8 := Nat.xor_lt_two_pow (by omega) (by omega)
  unfold x2
  omega

/-- One byte of a row is turned. -/
theorem fold_set {l : List Int} {p : Nat} (s : Nat) (e : Int) (hp : p < l.length) : fold s (l.set p (x2 l[p] e)) = fold s l ^^^ step (8 * (l.length - p)) e.toNat := by
  have h1 : l.set p (x2 l[p] e) = l.take p ++ x2 l[p] e :: l.drop (p + 1) := by
    rw [List.set_eq_take_append_cons_drop, if_pos hp]
  have h2 : l = l.take p ++ l[p] :: l.drop (p + 1) := by
    rw [← List.drop_eq_getElem_cons hp, List.take_append_drop]
  have h3 : fold s l = fold (byte (fold s (l.take p)) l[p]) (l.drop (p + 1)) := by
    conv => lhs; rw [h2]
    rw [fold_app, fold_cons]
  rw [h1, fold_app, fold_cons, byte_x2, fold_from, h3, ← step_add]
  congr 2
  simp
  omega

/-- A byte that stands i places behind the first one that may be turned: as if it stood there, that much higher. -/
theorem step_high (D i e : Nat) (hi : i ≤ D) : step (8 * (D - i)) e = step (8 * D) (256 ^ i * e) := by
  have h := step_two (8 * i) e
  rw [show (2 : Nat) ^ (8 * i) = 256 ^ i by rw [Nat.pow_mul]] at h
  rw [show 8 * D = 8 * (D - i) + 8 * i by omega, step_add, h]

theorem high_add {i acc e : Nat} (h : acc < 256 ^ i) : acc ^^^ 256 ^ i * e = acc + 256 ^ i * e := by
  have e1 : (256 : Nat) ^ i = 2 ^ (8 * i) := by rw [Nat.pow_mul]
  rw [e1] at h ⊢
  rw [Nat.xor_comm]
  apply Nat.eq_of_testBit_eq
  intro j
  rw [Nat.add_comm, Nat.testBit_xor, Nat.testBit_two_pow_mul, Nat.testBit_two_pow_mul_add _ h]
  by_cases hj : j < 8 * i
  · simp [hj, show ¬ 8 * i ≤ j by omega]
  · have hz : acc.testBit j = false := Nat.testBit_lt_two_pow (Nat.lt_of_lt_of_le h (Nat.pow_le_pow_right (by omega) (by omega)))
    simp [hj, show 8 * i ≤ j by omega, hz]

end Go.Proofs.Ytfffjolodilhoaa.C
