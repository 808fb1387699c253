/-
  The contracts of BinarySearch at texts, and of Find and Below, the program's and the document's own.
-/
import Derived.Test.YtonhehhmnobciaaMay7
namespace Go.Proofs.Ytonhehhmnobciaa
set_option maxRecDepth 100000
open Go.RowKit

theorem cnan_any (x : ByteArray) (w : World) : Calls Try.prog 116 #[.string x] w fun e w' => e = .returned (.bool false) ∧ w' = w := by
  have hx : (x.toList == x.toList) = true := by simp
  go_enter Try.func116, Try.ntmps116
  go_wp2
  go_ret
  exact ⟨by simp, rfl⟩

theorem nan7_any (x : ByteArray) (w : World) : Calls Try.prog 123 #[.string x] w fun e w' => e = .returned (.bool false) ∧ w' = w := by
  have hx : (x.toList == x.toList) = true := by simp
  go_enter Try.func123, Try.ntmps123
  go_wp2
  go_ret
  exact ⟨by simp, rfl⟩

theorem less7_any (x y : ByteArray) (w : World) (r : Bool) (hr : K.lt x y = r) : Calls Try.prog 122 #[.string x, .string y] w fun e w' => e = .returned (.bool r) ∧ w' = w := by
  have HR := hide hr
  clear hr
  go_enter Try.func122, Try.ntmps122
  go_wp2_with (go_at_call 116; refine (cnan_any _ _).mono ?_; rintro e w' ⟨rfl, rfl⟩)
  go_ret
  exact ⟨by rw [← unhide HR]; rfl, rfl⟩

set_option maxHeartbeats 2000000 in
theorem search7_any (v : Value) (l : List ByteArray) (x : ByteArray) (w : World) (h : Gl .string w v l) (hll : l.length ≤ 1000000) (hr : D.Rise l) :
    Calls Try.prog 98 #[v, .string x] w fun e w' => e = .returned (.tuple #[.int .i64 (D.bel l x), .bool (decide (l[D.bel l x]? = some x))]) ∧ w' = w := by
  obtain ⟨a, cap, rfl, hl, hm, hna, ho⟩ := h.open
  have HRI := hide hr
  clear h hr
  go_enter Try.func98, Try.ntmps98
  go_wp2
  go_loop [7, 8] (fun iv jv => ∃ i j : Nat, i ≤ j ∧ j ≤ l.length ∧ iv = .int .i64 i ∧ jv = .int .i64 j ∧ (∀ k y, k < i → l[k]? = some y → K.lt y x = true) ∧ (∀ k y, j ≤ k → l[k]? = some y → K.lt y x = false)) (fun iv jv => (intOf jv).toNat - (intOf iv).toNat)
  case atStart => exact ⟨0, l.length, Nat.zero_le _, Nat.le_refl _, rfl, rfl, fun k y hk _ => by omega, fun k y hk hy => by rw [List.getElem?_eq_none hk] at hy; simp at hy⟩
  case round =>
    obtain ⟨i, j, hij, hj, rfl, rfl, h1, h2⟩ := hrel
    have H1 := hide h1
    have H2 := hide h2
    clear h1 h2
    by_cases hlt : i < j
    · obtain ⟨b, off, rfl, hb, hc⟩ := ho (by omega)
      have hc1 : i ≤ (i + j) / 2 ∧ (i + j) / 2 < j := by omega
      obtain ⟨y, hy⟩ : ∃ y, l[(i + j) / 2]? = some y := ⟨l[(i + j) / 2], List.getElem?_eq_getElem (by omega)⟩
      have c2 := hc ((i + j) / 2) y hy
      have HY := hide hy
      clear ho hc hy
      cases hyx : K.lt y x with
      | true =>
        have HYX := hide hyx
        clear hyx
        go_wp2_with (go_at_call 122; refine (less7_any _ _ _ true (unhide HYX)).mono ?_; rintro e w' ⟨rfl, rfl⟩)
        go_round
        case rel =>
          refine ⟨(i + j) / 2 + 1, j, by omega, hj, by go_num, rfl, fun k u hk hu => ?_, unhide H2⟩
          by_cases e : k = (i + j) / 2
          · subst e
            rw [unhide HY] at hu
            simp at hu
            subst hu
            exact unhide HYX
          · exact K.lt_trans (D.rise_lt (unhide HRI) (i := k) (k := (i + j) / 2) (by omega) hu (unhide HY)) (unhide HYX)
        case measure => simp [intOf]; omega
      | false =>
        have HYX := hide hyx
        clear hyx
        go_wp2_with (go_at_call 122; refine (less7_any _ _ _ false (unhide HYX)).mono ?_; rintro e w' ⟨rfl, rfl⟩)
        go_round
        case rel =>
          refine ⟨i, (i + j) / 2, by omega, by omega, rfl, by go_num, unhide H1, fun k u hk hu => ?_⟩
          by_cases e : k = (i + j) / 2
          · subst e
            rw [unhide HY] at hu
            simp at hu
            subst hu
            exact unhide HYX
          · have h3 := D.rise_lt (unhide HRI) (i := (i + j) / 2) (k := k) (by omega) (unhide HY) hu
            cases h4 : K.lt u x with
            | false => rfl
            | true => have := K.lt_trans h3 h4; rw [unhide HYX] at this; cases this
        case measure => simp [intOf]; omega
    · obtain rfl : i = j := by omega
      have hah : D.bel l x = i := D.bel_is hj (unhide H1) (unhide H2)
      have HAH := hide hah
      clear hah hlt hij
      by_cases hil : i < l.length
      · obtain ⟨b, off, rfl, hb, hc⟩ := ho (by omega)
        obtain ⟨y, hy⟩ : ∃ y, l[i]? = some y := ⟨l[i], List.getElem?_eq_getElem hil⟩
        have c2 := hc i y hy
        have HY := hide hy
        have hii : ¬ (i < i) := Nat.lt_irrefl _
        have hq := @K.eq_to y x
        clear ho hc hy
        by_cases hyx : y = x
        · have hb1 : (y.toList == x.toList) = true := by rw [hq]; simpa using hyx
          have HYX := hide hyx
          clear hyx hq
          go_wp2
          exact bodyPost_ret (v := .tuple #[.int .i64 i, .bool true]) (by simp [results, Try.results98, go_sem]) rfl ⟨by rw [unhide HAH, unhide HY, unhide HYX]; simp, rfl⟩
        · have hb1 : (y.toList == x.toList) = false := by rw [hq]; simpa using hyx
          have HYX := hide hyx
          clear hyx hq
          go_wp2_with (go_at_call 123; refine (nan7_any _ _).mono ?_; rintro e w' ⟨rfl, rfl⟩)
          exact bodyPost_ret (v := .tuple #[.int .i64 i, .bool false]) (by simp [results, Try.results98, go_sem]) rfl ⟨by rw [unhide HAH, unhide HY, show decide (some y = some x) = false by simpa using unhide HYX], rfl⟩
      · have hii : ¬ (i < i) := Nat.lt_irrefl _
        go_wp2
        exact bodyPost_ret (v := .tuple #[.int .i64 i, .bool false]) (by simp [results, Try.results98, go_sem]) rfl ⟨by rw [unhide HAH, List.getElem?_eq_none (by omega)]; simp, rfl⟩

set_option maxHeartbeats 1000000 in
theorem find_any (v : Value) (l : List ByteArray) (x : ByteArray) (w : World) (h : Gl .string w v l) (r : Int) (hr : D.findR l x = r) :
    Calls Try.prog 50 #[v, .string x] w fun e w' => e = .returned (.int .i64 r) ∧ w' = w := by
  unfold D.findR at hr
  obtain ⟨a, cap, hv, -⟩ := id h
  cases hmy : D.may l with
  | false =>
    have HM := hide hmy
    have HR : Hid (r = -1) := by show _ = _; rw [← hr, hmy]; simp
    clear hmy hr
    subst hv
    go_enter Try.func50, Try.ntmps50
    go_wp2_with fail
    refine (may_any _ _ _ h _ (unhide HM)).mono ?_
    rintro e w1 ⟨rfl, rfl⟩
    go_wp2
    go_ret
    exact ⟨ret_int7 (unhide HR).symm, rfl⟩
  | true =>
    have HM := hide hmy
    rw [hmy] at hr
    have HR := hide hr
    obtain ⟨d, hd⟩ : ∃ d, decide (l[D.bel l x]? = some x) = d := ⟨_, rfl⟩
    obtain ⟨n, hn⟩ : ∃ n : Int, (D.bel l x : Int) = n := ⟨_, rfl⟩
    have HS := search7_any v l x w h (by have := D.may_len hmy; omega) (D.may_rise hmy)
    rw [hd, hn] at HS
    have HD := hide hd
    have HN := hide hn
    clear hmy hr hd hn
    subst hv
    go_enter Try.func50, Try.ntmps50
    go_wp2_with fail
    refine (may_any _ _ _ h _ (unhide HM)).mono ?_
    rintro e w1 ⟨rfl, rfl⟩
    go_wp2_with fail
    refine HS.mono ?_
    rintro e w1 ⟨rfl, rfl⟩
    cases d with
    | true =>
      go_wp2
      go_ret
      exact ⟨ret_int7 (by rw [← unhide HR, if_pos ⟨by trivial, of_decide_eq_true (unhide HD)⟩, unhide HN]), rfl⟩
    | false =>
      go_wp2
      go_ret
      exact ⟨ret_int7 (by rw [← unhide HR, if_neg (fun h => of_decide_eq_false (unhide HD) h.2)]), rfl⟩

end Go.Proofs.Ytonhehhmnobciaa
