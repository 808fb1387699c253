/-
  The contract of the function that holds two rows of bytes against each other (Bytes): it tells whether they are the same, and only reads.
-/
import Derived.Test.YtonhehhmnobciaaRows
import Derived.Test.YtonhehhmnobciaaBase
import Derived.Deep.QuietTactic
import Derived.BigQuiet
namespace Go.Proofs.Ytonhehhmnobciaa
open Go.RowKit

theorem take_snoc (l : List Int) (k : Nat) (h : k < l.length) : l.take (k + 1) = l.take k ++ [l[k]] := by
  rw [List.take_succ_eq_append_getElem h]

theorem same_step {xs ys : List Int} {k : Nat} (hl : xs.length = ys.length) (hk : k < xs.length) (h : xs.take k = ys.take k) (he : xs[k] = ys[k]'(by omega)) : xs.take (k + 1) = ys.take (k + 1) := by
  rw [take_snoc xs k hk, take_snoc ys k (by omega), h, he]

theorem same_end {xs ys : List Int} {k : Nat} (hl : xs.length = ys.length) (hk : ¬ k < xs.length) (h : xs.take k = ys.take k) : decide (xs = ys) = true := by
  rw [List.take_of_length_le (by omega), List.take_of_length_le (by omega)] at h
  simpa using h

theorem same_not {xs ys : List Int} {k : Nat} (hl : xs.length = ys.length) (hk : k < xs.length) (he : ¬ xs[k] = ys[k]'(by omega)) : decide (xs = ys) = false := by
  apply decide_eq_false
  intro h
  subst h
  exact he rfl

theorem same_len {xs ys : List Int} (hl : ¬ xs.length = ys.length) : decide (xs = ys) = false := by
  apply decide_eq_false
  intro h
  subst h
  exact hl rfl

set_option maxHeartbeats 400000 in
theorem bytes_any (va vb : Value) (xs ys : List Int) (w : World) (ha : Sl .u8 w va xs) (hb : Sl .u8 w vb ys) :
    Calls Try.prog 19 #[va, vb] w fun e w' => e = .returned (.bool (decide (xs = ys))) ∧ ∃ n, w' = w.drewN n := by
  obtain ⟨aa, ca, rfl, la, ma, na, oa⟩ := ha.open
  obtain ⟨ab, cb, rfl, lb, mb, nb, ob⟩ := hb.open
  clear ha hb
  by_cases hl : xs.length = ys.length
  · have HL : Hid (xs.length = ys.length) := hl
    have h0 : ((xs.length : Int) != (ys.length : Int)) = false := by simp [hl]
    clear hl
    go_enter Try.func19, Try.ntmps19
    go_wp2
    go_loopw [5] (fun i wr => ∃ k : Nat, k ≤ xs.length ∧ i = .int .i64 k ∧ xs.take k = ys.take k ∧ ∃ n, wr = w.drewN n) (fun i _ => xs.length - (intOf i).toNat)
    case atStart => exact ⟨0, Nat.zero_le _, rfl, rfl, 0, rfl⟩
    case round =>
      obtain ⟨k, hk, rfl, ht, n, rfl⟩ := hrel
      have HT : Hid (xs.take k = ys.take k) := ht
      clear ht
      by_cases hlt : k < xs.length
      · have hltb : k < ys.length := by have := HL.out; omega
        obtain ⟨ba, fa, rfl, _, ca⟩ := oa (by omega)
        obtain ⟨bb, fb, rfl, _, cb⟩ := ob (by omega)
        have c1 := ca k hlt
        have c2 := cb k hltb
        clear ca cb oa ob
        go_wp2
        go_region
        all_goals (try go_wp2)
        · have he : (xs[k] != ys[k]) = true := by assumption
          rw [bne_iff_ne] at he
          go_ret
          exact ⟨by rw [same_not HL.out hlt he]; rfl, n + 1, rfl⟩
        · have he : (xs[k] != ys[k]) = false := by assumption
          rw [bne_eq_false_iff_eq] at he
          go_roundw
          case rel => exact ⟨k + 1, by omega, by go_num, same_step HL.out hlt HT.out he, n + 1, rfl⟩
          case measure => simp [intOf]; omega
      · go_wp2
        go_ret
        exact ⟨by rw [same_end HL.out hlt HT.out]; rfl, n, rfl⟩
  · have h0 : ((xs.length : Int) != (ys.length : Int)) = true := by rw [bne_iff_ne]; omega
    go_enter Try.func19, Try.ntmps19
    go_wp2
    go_ret
    exact ⟨by rw [same_len hl]; rfl, 0, rfl⟩

end Go.Proofs.Ytonhehhmnobciaa
