/-
  Texts put together: Bits.
-/
import Derived.WalkKit
import Derived.Test.YtefnkbgkcjhkoaaQ01
/-
  Seven bits laid above those that are there: in Go's own words 'n | d << (7 * i)'.
-/
namespace Go.Proofs.Ytefnkbgkcjhkoaa
set_option maxRecDepth 100000
open Go.RowKit

theorem wraps_i64 (n : Int) (h₀ : 0 ≤ n) (h₁ : n < 2 ^ 62) : IntKind.i64.wrap n = n := by rw [IntKind.wrap_i64]; omega

theorem or_up (j : Nat) (acc d : Int) (h0 : 0 ≤ acc) (h1 : acc < 2 ^ j) (hd0 : 0 ≤ d) (hj : acc < 2 ^ 62) (hx : 2 ^ j * d < 2 ^ 62) :
    bits .or .i64 acc (2 ^ j * d) = acc + 2 ^ j * d := by
  obtain ⟨a, rfl⟩ := Int.eq_ofNat_of_zero_le h0
  obtain ⟨b, rfl⟩ := Int.eq_ofNat_of_zero_le hd0
  have ha : a < 2 ^ 62 := by exact_mod_cast hj
  have ha' : a < 2 ^ j := by exact_mod_cast h1
  have hb : 2 ^ j * b < 2 ^ 62 := by exact_mod_cast hx
  have e : ((2 : Int) ^ j * (b : Int)) = ((2 ^ j * b : Nat) : Int) := by simp
  rw [e, (bits_nat .i64 62 (by decide) wraps_i64 a _ ha hb).2, Nat.or_comm, ← Nat.two_pow_add_eq_or_of_lt ha' b]
  simp
  omega

theorem or_zero {acc : Int} (h0 : 0 ≤ acc) (h1 : acc ≤ 34359738367) : bits .or .i64 acc 0 = acc := by
  have := or_up 62 acc 0 h0 (by omega) (by omega) (by omega) (by omega)
  simpa using this

theorem or_pw {i : Nat} {acc d : Int} (hi : i < 5) (h0 : 0 ≤ acc) (h1 : acc < V.pw i) (hd0 : 0 ≤ d) (hd1 : d < 128) :
    bits .or .i64 acc (wrap64 (d * 2 ^ (7 * i))) = acc + V.pw i * d := by
  match i, hi with
  | 0, _ =>
    simp only [V.pw] at h1 ⊢
    rw [IntWalk.wrap64_in _ ⟨by omega, by omega⟩, show d * 2 ^ (7 * 0) = 2 ^ 0 * d by omega, or_up 0 acc d h0 (by omega) hd0 (by omega) (by omega)]
    omega
  | 1, _ =>
    simp only [V.pw] at h1 ⊢
    rw [IntWalk.wrap64_in _ ⟨by omega, by omega⟩, show d * 2 ^ (7 * 1) = 2 ^ 7 * d by omega, or_up 7 acc d h0 (by omega) hd0 (by omega) (by omega)]
    omega
  | 2, _ =>
    simp only [V.pw] at h1 ⊢
    rw [IntWalk.wrap64_in _ ⟨by omega, by omega⟩, show d * 2 ^ (7 * 2) = 2 ^ 14 * d by omega, or_up 14 acc d h0 (by omega) hd0 (by omega) (by omega)]
    omega
  | 3, _ =>
    simp only [V.pw] at h1 ⊢
    rw [IntWalk.wrap64_in _ ⟨by omega, by omega⟩, show d * 2 ^ (7 * 3) = 2 ^ 21 * d by omega, or_up 21 acc d h0 (by omega) hd0 (by omega) (by omega)]
    omega
  | 4, _ =>
    simp only [V.pw] at h1 ⊢
    rw [IntWalk.wrap64_in _ ⟨by omega, by omega⟩, show d * 2 ^ (7 * 4) = 2 ^ 28 * d by omega, or_up 28 acc d h0 (by omega) hd0 (by omega) (by omega)]
    omega

theorem pw_next {i : Nat} {acc d : Int} (hi : i < 5) (h0 : 0 ≤ acc) (h1 : acc < V.pw i) (hd0 : 0 ≤ d) (hd1 : d < 128) : 0 ≤ acc + V.pw i * d ∧ acc + V.pw i * d < V.pw (i + 1) ∧ acc + V.pw i * d ≤ 34359738367 := by
  match i, hi with
  | 0, _ => simp only [V.pw] at h1 ⊢; omega
  | 1, _ => simp only [V.pw] at h1 ⊢; omega
  | 2, _ => simp only [V.pw] at h1 ⊢; omega
  | 3, _ => simp only [V.pw] at h1 ⊢; omega
  | 4, _ => simp only [V.pw] at h1 ⊢; omega
end Go.Proofs.Ytefnkbgkcjhkoaa
