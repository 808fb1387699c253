/-
  The contracts of the document's own Find and Below.
-/
import Derived.Test.YtgiefkeophobhaaMay7
namespace Go.Proofs.Ytgiefkeophobhaa
open Go.RowKit

set_option maxHeartbeats 1000000 in
theorem rfind_any (v : Value) (l : List ByteArray) (x : ByteArray) (w : World) (h : Gl .string w v l) (hz : ∀ x ∈ l, x.size ≤ maxLen) (r : Int) (hr : D.findR l x = r) :
    Calls Try.prog 15 #[v, .string x] w fun e w' => e = .returned (.int .i64 r) ∧ Below w.heap.size w w' := by
  unfold D.findR at hr
  obtain ⟨m, hmy⟩ : ∃ m, D.may l = m := ⟨_, rfl⟩
  have HM := hide hmy
  rw [hmy] at hr
  have HRI : Hid (m = true → D.Rise l) := fun e => D.may_rise (hmy.trans e)
  have HR := hide hr
  obtain ⟨a, cap, hv, -⟩ := id h
  clear hmy hr
  subst hv
  go_enter Try.func15, Try.ntmps15
  go_wp2_with fail
  refine (rmay_any _ _ _ h hz _ (unhide HM)).mono ?_
  rintro e w1 ⟨rfl, B1⟩
  obtain ⟨a', cap', hv', hl, hm, hna, ho⟩ := (h.below B1).open
  simp only [Value.slice.injEq, true_and] at hv'
  obtain ⟨rfl, rfl⟩ := hv'
  clear h
  cases m with
  | false =>
    go_wp2
    go_loop [6] (fun iv => ∃ k : Nat, k ≤ l.length ∧ iv = .int .i64 k) (fun iv => l.length - (intOf iv).toNat)
    case atStart => exact ⟨0, Nat.zero_le _, rfl⟩
    case round =>
      obtain ⟨k, hk, rfl⟩ := hrel
      clear ho
      by_cases hlt : k < l.length
      · go_wp2
        go_ret
        exact ⟨ret_int (by rw [← unhide HR]; simp), B1⟩
      · go_wp2
        go_ret
        exact ⟨ret_int (by rw [← unhide HR]; simp), B1⟩
  | true =>
    have HRJ : Hid (D.Rise l) := unhide HRI rfl
    clear HRI
    go_wp2
    go_loop [6] (fun iv => ∃ k : Nat, k ≤ l.length ∧ iv = .int .i64 k ∧ Hid (∀ j y, j < k → l[j]? = some y → y ≠ x)) (fun iv => l.length - (intOf iv).toNat)
    case atStart => exact ⟨0, Nat.zero_le _, rfl, fun j y hj => by omega⟩
    case round =>
      obtain ⟨k, hk, rfl, HK⟩ := hrel
      by_cases hlt : k < l.length
      · obtain ⟨b, off, rfl, hb, hc⟩ := ho (by omega)
        obtain ⟨y, hy⟩ : ∃ y, l[k]? = some y := ⟨l[k], List.getElem?_eq_getElem hlt⟩
        have c1 := hc k y hy
        have HY := hide hy
        have hq := @K.eq_to y x
        clear ho hc hy
        by_cases hyx : y = x
        · have hb1 : (y.toList == x.toList) = true := by rw [hq]; simpa using hyx
          have HX : Hid (r = (k : Int)) := by
            show _ = _
            have e := unhide HY
            rw [hyx] at e
            have e2 := D.bel_self (unhide HRJ) e
            rw [← unhide HR, e2, if_pos ⟨by trivial, e⟩]
          clear hyx hq
          go_wp2
          go_ret
          exact ⟨ret_int (unhide HX).symm, B1⟩
        · have hb1 : (y.toList == x.toList) = false := by rw [hq]; simpa using hyx
          have HX := hide hyx
          clear hyx hq
          go_wp2
          go_round
          case rel =>
            refine ⟨k + 1, by omega, by go_num, fun j z hj hz => ?_⟩
            by_cases e : j = k
            · subst e
              rw [unhide HY] at hz
              cases hz
              exact unhide HX
            · exact unhide HK j z (by omega) hz
          case measure => simp [intOf]; omega
      · have HX : Hid (r = -1) := by
          show _ = _
          rw [← unhide HR, if_neg]
          rintro ⟨-, e⟩
          exact unhide HK _ _ (by have := (List.getElem?_eq_some_iff.1 e).1; omega) e rfl
        clear ho
        go_wp2
        go_ret
        exact ⟨ret_int (unhide HX).symm, B1⟩

set_option maxHeartbeats 1000000 in
theorem rbel_any (v : Value) (l : List ByteArray) (x : ByteArray) (w : World) (h : Gl .string w v l) (hz : ∀ x ∈ l, x.size ≤ maxLen) (r : Int) (hr : D.belR l x = r) :
    Calls Try.prog 17 #[v, .string x] w fun e w' => e = .returned (.int .i64 r) ∧ Below w.heap.size w w' := by
  unfold D.belR at hr
  obtain ⟨m, hmy⟩ : ∃ m, D.may l = m := ⟨_, rfl⟩
  have HM := hide hmy
  rw [hmy] at hr
  have HR := hide hr
  obtain ⟨a, cap, hv, -⟩ := id h
  clear hmy hr
  subst hv
  go_enter Try.func17, Try.ntmps17
  go_wp2_with fail
  refine (rmay_any _ _ _ h hz _ (unhide HM)).mono ?_
  rintro e w1 ⟨rfl, B1⟩
  obtain ⟨a', cap', hv', hl, hm, hna, ho⟩ := (h.below B1).open
  simp only [Value.slice.injEq, true_and] at hv'
  obtain ⟨rfl, rfl⟩ := hv'
  clear h
  cases m with
  | false =>
    go_wp2
    go_loop [6, 7] (fun nv iv => ∃ k : Nat, k ≤ l.length ∧ iv = .int .i64 k ∧ nv = .int .i64 0) (fun _ iv => l.length - (intOf iv).toNat)
    case atStart => exact ⟨0, Nat.zero_le _, rfl, rfl⟩
    case round =>
      obtain ⟨k, hk, rfl, rfl⟩ := hrel
      clear ho
      by_cases hlt : k < l.length
      · go_wp2
        go_ret
        exact ⟨ret_int (by rw [← unhide HR]; simp), B1⟩
      · go_wp2
        go_ret
        exact ⟨ret_int (by rw [← unhide HR]; simp), B1⟩
  | true =>
    go_wp2
    go_loopw [6, 7] (fun nv iv wr => ∃ (k q j : Nat), k ≤ l.length ∧ j ≤ k ∧ iv = .int .i64 k ∧ nv = .int .i64 j ∧ wr = w1.drewN q ∧ Hid (D.bel (l.take k) x = j)) (fun _ iv _ => l.length - (intOf iv).toNat)
    case atStart => exact ⟨0, 0, 0, Nat.zero_le _, Nat.le_refl _, rfl, rfl, rfl, rfl⟩
    case round =>
      obtain ⟨k, q, j, hk, hjk, rfl, rfl, rfl, HK⟩ := hrel
      by_cases hlt : k < l.length
      · obtain ⟨b, off, rfl, hb, hc⟩ := ho (by omega)
        obtain ⟨y, hy⟩ : ∃ y, l[k]? = some y := ⟨l[k], List.getElem?_eq_getElem hlt⟩
        have c1 := hc k y hy
        have hyz := hz y (List.mem_of_getElem? hy)
        have hst := D.bel_step (t := x) hy
        rw [unhide HK] at hst
        clear ho hc hy HK
        cases hyx : K.lt y x with
        | true =>
          rw [hyx, if_pos rfl] at hst
          have HS := hide hst
          have HB := hide hyx
          clear hst hyx
          go_wp2_with fail
          refine (below_b _ _ _ hyz _ (unhide HB)).mono ?_
          rintro e w2 ⟨rfl, q2, rfl⟩
          go_wp2
          go_roundw
          case rel => exact ⟨k + 1, _, j + 1, by omega, by omega, by go_num, by go_num, rfl, unhide HS⟩
          case measure => simp [intOf]; omega
        | false =>
          rw [hyx, if_neg (by simp), Nat.add_zero] at hst
          have HS := hide hst
          have HB := hide hyx
          clear hst hyx
          go_wp2_with fail
          refine (below_b _ _ _ hyz _ (unhide HB)).mono ?_
          rintro e w2 ⟨rfl, q2, rfl⟩
          go_wp2
          go_roundw
          case rel => exact ⟨k + 1, _, j, by omega, by omega, by go_num, rfl, rfl, unhide HS⟩
          case measure => simp [intOf]; omega
      · have HX : Hid (r = (j : Int)) := by
          show _ = _
          have e := unhide HK
          rw [List.take_of_length_le (by omega)] at e
          rw [← unhide HR, if_pos (by trivial), e]
        clear ho
        go_wp2
        go_ret
        exact ⟨ret_int (unhide HX).symm, below_dr B1 q⟩
end Go.Proofs.Ytgiefkeophobhaa
