/-
  The contracts of the document's own Valid, and of the function that holds two lists of texts against each other (at lists that are the same).
-/
import Derived.Test.YtpmbgbahoinelaaSign5
namespace Go.Proofs.Ytpmbgbahoinelaa
open Go.RowKit

set_option maxRecDepth 1000000 in
set_option maxHeartbeats 1000000 in
theorem rvalid_any (s : ByteArray) (w : World) (hs : s.size ≤ 9223372036854775000) (r : Bool) (hr : T.valid (T.bs s) = r) :
    Calls Try.prog 15 #[.string s] w fun e w' => e = .returned (.bool r) ∧ Below w.heap.size w w' := by
  have HR := hide hr
  clear hr
  go_enter Try.func15, Try.ntmps15
  go_wp2
  go_loop [3] (fun iv => ∃ k : Nat, k ≤ s.size ∧ iv = .int .i64 k ∧ Hid (T.valid ((T.bs s).drop k) = r)) (fun iv => s.size - (intOf iv).toNat)
  case atStart => exact ⟨0, Nat.zero_le _, rfl, unhide HR⟩
  case round =>
    obtain ⟨k, hk, rfl, HV⟩ := hrel
    by_cases hlt : k < s.size
    · obtain ⟨n, hn⟩ : ∃ n, T.sign ((T.bs s).drop k) = n := ⟨_, rfl⟩
      have hle := T.sign_le_len _ (drop_ne hlt)
      rw [List.length_drop, bs_len, hn] at hle
      have hsg := T.valid_sign _ (drop_ne hlt)
      rw [hn, unhide HV, List.drop_drop] at hsg
      have HN := hide hn
      have HG := hide hsg
      clear hn hsg
      go_wp2_with fail
      refine (sign_any s k _ hlt hs n (unhide HN)).mono ?_
      rintro e w1 ⟨rfl, rfl⟩
      by_cases h0 : n = 0
      · subst h0
        go_wp2
        go_ret
        exact ⟨by rw [unhide HG]; rfl, Below.refl _ _⟩
      · have h1 : ((n : Int) == 0) = false := by simp; omega
        have HX : Hid (T.valid ((T.bs s).drop (k + n)) = r) := by
          show _ = _
          rw [unhide HG]
          simp [h0]
        go_wp2
        go_round
        case rel => exact ⟨k + n, by omega, by go_num, unhide HX⟩
        case measure => simp [intOf]; omega
    · have HE : Hid (r = true) := by show _ = _; rw [← unhide HV, drop_end hlt]; rfl
      go_wp2
      go_ret
      exact ⟨by rw [unhide HE]; rfl, Below.refl _ _⟩

set_option maxHeartbeats 1000000 in
theorem texts_any (va vb : Value) (m : List ByteArray) (w : World) (ha : Gl .string w va m) (hb : Gl .string w vb m) :
    Calls Try.prog 13 #[va, vb] w fun e w' => e = .returned (.bool true) ∧ Below w.heap.size w w' := by
  obtain ⟨aa, ca, rfl, la, ma, na, oa⟩ := ha.open
  obtain ⟨ab, cb, rfl, lb, mb, nb, ob⟩ := hb.open
  clear ha hb
  have h0 : ((m.length : Int) != (m.length : Int)) = false := by simp
  go_enter Try.func13, Try.ntmps13
  go_wp2
  go_loopw [5] (fun i wr => ∃ k : Nat, k ≤ m.length ∧ i = .int .i64 k ∧ ∃ n, wr = w.drewN n) (fun i _ => m.length - (intOf i).toNat)
  case atStart => exact ⟨0, Nat.zero_le _, rfl, 0, rfl⟩
  case round =>
    obtain ⟨k, hk, rfl, n, rfl⟩ := hrel
    by_cases hlt : k < m.length
    · obtain ⟨ba, fa, rfl, _, ca⟩ := oa (by omega)
      obtain ⟨bb, fb, rfl, _, cb⟩ := ob (by omega)
      obtain ⟨x, hx⟩ : ∃ x, m[k]? = some x := ⟨m[k], List.getElem?_eq_getElem hlt⟩
      have c1 := ca k x hx
      have c2 := cb k x hx
      have hxx : (x.toList == x.toList) = true := by simp
      clear ca cb oa ob hx
      go_wp2
      go_region
      all_goals (try go_wp2)
      go_roundw
      case rel => exact ⟨k + 1, by omega, by go_num, n + 1, rfl⟩
      case measure => simp [intOf]; omega
    · go_wp2
      go_ret
      exact ⟨rfl, below_dr (Below.refl _ _) n⟩
end Go.Proofs.Ytpmbgbahoinelaa
