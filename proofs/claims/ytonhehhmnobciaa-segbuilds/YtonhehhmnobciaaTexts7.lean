/-
  The contract of the function that holds two lists of texts against each other (Texts).
-/
import Derived.Test.YtonhehhmnobciaaMay7
namespace Go.Proofs.Ytonhehhmnobciaa
set_option maxRecDepth 100000
open Go.RowKit

set_option maxHeartbeats 1000000 in
theorem texts_any (va vb : Value) (m q : List ByteArray) (w : World) (ha : Gl .string w va m) (hb : Gl .string w vb q) (r : Bool) (hr : decide (m = q) = r) :
    Calls Try.prog 22 #[va, vb] w fun e w' => e = .returned (.bool r) ∧ Below w.heap.size w w' := by
  obtain ⟨aa, ca, rfl, la, ma, na, oa⟩ := ha.open
  obtain ⟨ab, cb, rfl, lb, mb, nb, ob⟩ := hb.open
  clear ha hb
  have HR := hide hr
  clear hr
  by_cases hl : m.length = q.length
  · have h0 : ((m.length : Int) != (q.length : Int)) = false := by simp [hl]
    have HL := hide hl
    clear hl
    go_enter Try.func22, Try.ntmps22
    go_wp2
    go_loopw [5] (fun i wr => ∃ k n : Nat, k ≤ m.length ∧ i = .int .i64 k ∧ wr = w.drewN n ∧ Hid (m.take k = q.take k)) (fun i _ => m.length - (intOf i).toNat)
    case atStart => exact ⟨0, 0, Nat.zero_le _, rfl, rfl, rfl⟩
    case round =>
      obtain ⟨k, n, hk, rfl, rfl, HT⟩ := hrel
      by_cases hlt : k < m.length
      · have hltb : k < q.length := by have := unhide HL; omega
        obtain ⟨ba, fa, rfl, _, ca⟩ := oa (by omega)
        obtain ⟨bb, fb, rfl, _, cb⟩ := ob (by omega)
        obtain ⟨x, hx⟩ : ∃ x, m[k]? = some x := ⟨m[k], List.getElem?_eq_getElem hlt⟩
        obtain ⟨y, hy⟩ : ∃ y, q[k]? = some y := ⟨q[k], List.getElem?_eq_getElem hltb⟩
        have c1 := ca k x hx
        have c2 := cb k y hy
        have HX := hide hx
        have HY := hide hy
        have hq := @K.eq_to x y
        clear ca cb oa ob hx hy
        by_cases hxy : x = y
        · have hb1 : (x.toList == y.toList) = true := by rw [hq]; simpa using hxy
          have HXY := hide hxy
          clear hxy hq
          go_wp2
          go_quiet (fail)
          go_wp2
          go_roundw
          case rel =>
            refine ⟨k + 1, _, by omega, by go_num, rfl, ?_⟩
            show _ = _
            obtain ⟨_, e1⟩ := List.getElem?_eq_some_iff.1 (unhide HX)
            obtain ⟨_, e2⟩ := List.getElem?_eq_some_iff.1 (unhide HY)
            rw [List.take_succ_eq_append_getElem (by omega), List.take_succ_eq_append_getElem (by omega), unhide HT, e1, e2, unhide HXY]
          case measure => simp [intOf]; omega
        · have hb1 : (x.toList == y.toList) = false := by rw [hq]; simpa using hxy
          have HXY := hide hxy
          clear hxy hq
          go_wp2
          go_quiet (fail)
          go_wp2
          go_ret
          refine ⟨ret_bool ?_, below_dr (below_dr (Below.refl _ _) _) _⟩
          rw [← unhide HR]
          symm
          apply decide_eq_false
          intro e
          have e1 := unhide HX
          rw [e, unhide HY] at e1
          exact unhide HXY (Option.some.inj e1).symm
      · have HX : Hid (r = true) := by
          show _ = _
          have e := unhide HT
          rw [List.take_of_length_le (by omega), List.take_of_length_le (by have := unhide HL; omega)] at e
          rw [← unhide HR, e]
          simp
        clear oa ob
        go_wp2
        go_ret
        exact ⟨ret_bool (unhide HX).symm, below_dr (Below.refl _ _) n⟩
  · have h0 : ((m.length : Int) != (q.length : Int)) = true := by rw [bne_iff_ne]; omega
    have HX : Hid (r = false) := by
      show _ = _
      rw [← unhide HR]
      apply decide_eq_false
      intro e
      rw [e] at hl
      exact hl rfl
    clear oa ob hl
    go_enter Try.func22, Try.ntmps22
    go_wp2
    go_ret
    exact ⟨ret_bool (unhide HX).symm, Below.refl _ _⟩
end Go.Proofs.Ytonhehhmnobciaa
