/-
  The plain mathematics of the sum (CRC-32C): one bit, eight bits, a byte, a row of bytes. No program is named here.
-/
import Derived.Test.YtfffjolodilhoaaPlain
namespace Go.Proofs.Ytfffjolodilhoaa.C

/-- The lowest bit is taken away; if it was set, the pattern is laid over the rest. -/
def bit (s : Nat) : Nat := if s % 2 = 1 then s / 2 ^^^ 2197175160 else s / 2

def step : Nat → Nat → Nat
  | 0, s => s
  | k + 1, s => step k (bit s)

/-- One byte is handed to the sum. -/
def byte (s : Nat) (c : Int) : Nat := step 8 (s ^^^ c.toNat)

def fold (s : Nat) (l : List Int) : Nat := l.foldl byte s

/-- The sum of a row of bytes. -/
def sum (l : List Int) : Nat := 4294967295 - fold 4294967295 l

theorem bit_lt {s : Nat} (h : s < 4294967296) : bit s < 4294967296 := by
  unfold bit
  split
  · exact Nat.xor_lt_two_pow (n := 32) (by omega) (by omega)
  · omega

theorem step_lt : ∀ (k s : Nat), s < 4294967296 → step k s < 4294967296
  | 0, _, h => h
  | k + 1, _, h => step_lt k _ (bit_lt h)

theorem byt_nat {c : Int} (h : 0 ≤ c ∧ c ≤ 255) : c.toNat < 256 := by omega

theorem xor_lt {a b : Nat} (ha : a < 4294967296) (hb : b < 4294967296) : a ^^^ b < 4294967296 := Nat.xor_lt_two_pow (n := 32) ha hb

theorem byte_lt {s : Nat} {c : Int} (h : s < 4294967296) (hc : c ≤ 255) : byte s c < 4294967296 := step_lt 8 _ (xor_lt h (by omega))

theorem fold_lt : ∀ (l : List Int) (s : Nat), V.Byt l → s < 4294967296 → fold s l < 4294967296
  | [], _, _, h => h
  | _ :: r, _, hb, h => fold_lt r _ hb.tail (byte_lt h hb.head.2)

theorem sum_lt (l : List Int) : sum l < 4294967296 := by unfold sum; omega

theorem fold_app (s : Nat) (a b : List Int) : fold s (a ++ b) = fold (fold s a) b := by simp [fold, List.foldl_append]
theorem fold_nil (s : Nat) : fold s [] = s := rfl
theorem fold_cons (s : Nat) (c : Int) (r : List Int) : fold s (c :: r) = fold (byte s c) r := rfl

theorem fold_take {l : List Int} {k : Nat} (s : Nat) (h : k < l.length) : fold s (l.take (k + 1)) = byte (fold s (l.take k)) l[k] := by
  rw [List.take_succ_eq_append_getElem h, fold_app]; rfl

theorem step_more (k s : Nat) (h : k < 8) : step (8 - k) s = step (8 - (k + 1)) (bit s) := by
  rw [show 8 - k = (8 - (k + 1)) + 1 by omega]; rfl

end Go.Proofs.Ytfffjolodilhoaa.C
