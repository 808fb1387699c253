/-
  The contract of the function that holds two lists of numbers against each other (Ints): it tells whether they are the same, and only reads.
-/
import Derived.Test.YtggojmnalmjapaaHelp
namespace Go.Proofs.Ytggojmnalmjapaa
set_option maxRecDepth 100000
open Go.RowKit

set_option maxHeartbeats 400000 in
theorem ints_any (va vb : Value) (xs ys : List Int) (w : World) (ha : Sl .i64 w va xs) (hb : Sl .i64 w vb ys) :
    Calls Try.prog 11 #[va, vb] w fun e w' => e = .returned (.bool (decide (xs = ys))) ∧ ∃ n, w' = w.drewN n := by
  obtain ⟨aa, ca, rfl, la, ma, na, oa⟩ := ha.open
  obtain ⟨ab, cb, rfl, lb, mb, nb, ob⟩ := hb.open
  clear ha hb
  by_cases hl : xs.length = ys.length
  · have HL : Hid (xs.length = ys.length) := hl
    have h0 : ((xs.length : Int) != (ys.length : Int)) = false := by simp [hl]
    clear hl
    go_enter Try.func11, Try.ntmps11
    go_wp2
    go_loopw [5] (fun i wr => ∃ k : Nat, k ≤ xs.length ∧ i = .int .i64 k ∧ xs.take k = ys.take k ∧ ∃ n, wr = w.drewN n) (fun i _ => xs.length - (intOf i).toNat)
    case atStart => exact ⟨0, Nat.zero_le _, rfl, rfl, 0, rfl⟩
    case round =>
      obtain ⟨k, hk, rfl, ht, n, rfl⟩ := hrel
      have HT : Hid (xs.take k = ys.take k) := ht
      clear ht
      by_cases hlt : k < xs.length
      · have hltb : k < ys.length := by have := HL.out; omega
        obtain ⟨ba, fa, rfl, _, ca⟩ := oa (by omega)
        obtain ⟨bb, fb, rfl, _, cb⟩ := ob (by omega)
        have c1 := ca k hlt
        have c2 := cb k hltb
        clear ca cb oa ob
        go_wp2
        go_region
        all_goals (try go_wp2)
        · have he : (xs[k] != ys[k]) = true := by assumption
          rw [bne_iff_ne] at he
          go_ret
          exact ⟨by rw [same_not HL.out hlt he]; rfl, n + 1, rfl⟩
        · have he : (xs[k] != ys[k]) = false := by assumption
          rw [bne_eq_false_iff_eq] at he
          go_roundw
          case rel => exact ⟨k + 1, by omega, by go_num, same_step HL.out hlt HT.out he, n + 1, rfl⟩
          case measure => simp [intOf]; omega
      · go_wp2
        go_ret
        exact ⟨by rw [same_end HL.out hlt HT.out]; rfl, n, rfl⟩
  · have h0 : ((xs.length : Int) != (ys.length : Int)) = true := by rw [bne_iff_ne]; omega
    go_enter Try.func11, Try.ntmps11
    go_wp2
    go_ret
    exact ⟨by rw [same_len hl]; rfl, 0, rfl⟩

theorem ints_b (va vb : Value) (xs ys : List Int) (w : World) (ha : Sl .i64 w va xs) (hb : Sl .i64 w vb ys) (r : Bool) (hr : decide (xs = ys) = r) :
    Calls Try.prog 11 #[va, vb] w fun e w' => e = .returned (.bool r) ∧ Below w.heap.size w w' :=
  (ints_any va vb xs ys w ha hb).mono fun e w' ⟨h1, n, h2⟩ => ⟨by rw [h1, hr], by rw [h2]; exact below_dr (Below.refl _ _) n⟩
end Go.Proofs.Ytggojmnalmjapaa
