/-
  The contracts of slices.Clone and slices.BinarySearch at numbers.
-/
import Derived.Test.YtjkaidlgooemoaaPlain6
import Derived.Test.YtjkaidlgooemoaaRFind6
import Derived.Lib.SliceRun
namespace Go.Proofs.Ytjkaidlgooemoaa
open Go.RowKit

set_option maxHeartbeats 1000000 in
theorem clone_any (v : Value) (l : List Int) (w : World) (h : Sl .i64 w v l) (hll : l.length ≤ 1000000) :
    Calls Try.prog 48 #[v] w fun e w' => ∃ v', e = .returned v' ∧ Pa w.heap.size w' v' l ∧ Below w.heap.size w w' := by
  obtain ⟨i0, hi, hz0, hz1, hz2⟩ := info_parts Try.info3
  have H := h
  obtain ⟨a, cap, rfl, hl, hm, hna, -⟩ := h
  have q : ∀ (w : World) (a : Option Addr) (n c n' c' : Nat), (binOp .eql 37 (.slice a n c) (.slice none n' c')).run Try.prog w = .ok (.bool a.isNone) w := fun w a n c n' c' => Lib.run_eql_slice_nil w _ _ a n c n' c' Try.underlying37
  cases a with
  | none =>
    have hl0 : l = [] := List.eq_nil_of_length_eq_zero (by have := hna rfl; omega)
    subst hl0
    clear H
    go_enter Try.func48, Try.ntmps48
    go_wp2
    go_ret
    exact ⟨_, rfl, World.ownsRow_nil _ _ _ _, Below.refl _ _⟩
  | some x =>
    have H1 := H.below (below_alloc w (.cells #[] 3))
    have O1 := World.ownsRow_made (base := w.heap.size) (e := 3) (size := 1) w #[] 0 (Nat.le_refl _) (Nat.zero_le _) rfl
    go_enter Try.func48, Try.ntmps48
    go_wp2_with (at_builtin; refine append_all (k := .i64) rfl _ _ 37 rfl Try.underlying37 hi hz0 hz1 hz2 rfl (B := w.heap.size) (w0 := w) (pre := []) (zs := l) rfl rfl H1 O1 (below_alloc _ _) (by simp) (by simp; omega) (by decide) ?_; intro v1 w1 O2 B2)
    go_ret
    exact ⟨_, rfl, by simpa [Pa] using O2, B2⟩

theorem cnan_any (x : Int) (w : World) : Calls Try.prog 64 #[.int .i64 x] w fun e w' => e = .returned (.bool false) ∧ w' = w := by
  have hx : (x != x) = false := by simp
  go_enter Try.func64, Try.ntmps64
  go_wp2
  go_ret
  exact ⟨rfl, rfl⟩

theorem nan_any (x : Int) (w : World) : Calls Try.prog 52 #[.int .i64 x] w fun e w' => e = .returned (.bool false) ∧ w' = w := by
  have hx : (x != x) = false := by simp
  go_enter Try.func52, Try.ntmps52
  go_wp2
  go_ret
  exact ⟨rfl, rfl⟩

theorem less_any (x y : Int) (w : World) (r : Bool) (hr : decide (x < y) = r) : Calls Try.prog 51 #[.int .i64 x, .int .i64 y] w fun e w' => e = .returned (.bool r) ∧ w' = w := by
  have HR := hide hr
  go_enter Try.func51, Try.ntmps51
  go_wp2_with (go_at_call 64; refine (cnan_any _ _).mono ?_; rintro e w' ⟨rfl, rfl⟩)
  go_ret
  exact ⟨rfl, rfl⟩

set_option maxHeartbeats 2000000 in
theorem search_any (v : Value) (l : List Int) (x m z : Int) (w : World) (h : Sl .i64 w v l) (hll : l.length ≤ 1000000) (hr : Q.riseB m z l = true) :
    Calls Try.prog 30 #[v, .int .i64 x] w fun e w' => e = .returned (.tuple #[.int .i64 (Q.ahead l x), .bool (decide (x ∈ l))]) ∧ w' = w := by
  obtain ⟨a, cap, rfl, hl, hm, hna, ho⟩ := h.open
  have HRI := hide hr
  clear h hr
  go_enter Try.func30, Try.ntmps30
  go_wp2
  go_loop [7, 8] (fun iv jv => ∃ i j : Nat, i ≤ j ∧ j ≤ l.length ∧ iv = .int .i64 i ∧ jv = .int .i64 j ∧ (∀ k y, k < i → l[k]? = some y → y < x) ∧ (∀ k y, j ≤ k → l[k]? = some y → x ≤ y)) (fun iv jv => (intOf jv).toNat - (intOf iv).toNat)
  case atStart => exact ⟨0, l.length, Nat.zero_le _, Nat.le_refl _, rfl, rfl, fun k y hk _ => by omega, fun k y hk hy => by rw [List.getElem?_eq_none hk] at hy; simp at hy⟩
  case round =>
    obtain ⟨i, j, hij, hj, rfl, rfl, h1, h2⟩ := hrel
    have H1 := hide h1
    have H2 := hide h2
    clear h1 h2
    by_cases hlt : i < j
    · obtain ⟨b, off, rfl, hb, hc⟩ := ho (by omega)
      have hc1 : i ≤ (i + j) / 2 ∧ (i + j) / 2 < j := by omega
      have c1 := hc ((i + j) / 2) (by omega)
      obtain ⟨y, hy⟩ : ∃ y, l[(i + j) / 2]? = some y := ⟨l[(i + j) / 2], List.getElem?_eq_getElem (by omega)⟩
      have c2 : w.cell? ⟨b, off + (i + j) / 2, none⟩ = some (.int .i64 y) := by rw [c1]; simp [List.getD, hy]
      have HY := hide hy
      clear ho hc c1 hy
      by_cases hyx : y < x
      · go_wp2_with (go_at_call 51; refine (less_any _ _ _ true (by simpa using hyx)).mono ?_; rintro e w' ⟨rfl, rfl⟩)
        go_round
        case rel =>
          refine ⟨(i + j) / 2 + 1, j, by omega, hj, by go_num, rfl, fun k u hk hu => ?_, unhide H2⟩
          by_cases e : k = (i + j) / 2
          · subst e
            rw [unhide HY] at hu
            simp at hu
            omega
          · have := Q.rise_lt (unhide HRI) (i := k) (k := (i + j) / 2) (by omega) hu (unhide HY)
            omega
        case measure => simp [intOf]; omega
      · go_wp2_with (go_at_call 51; refine (less_any _ _ _ false (by simpa using hyx)).mono ?_; rintro e w' ⟨rfl, rfl⟩)
        go_round
        case rel =>
          refine ⟨i, (i + j) / 2, by omega, by omega, rfl, by go_num, unhide H1, fun k u hk hu => ?_⟩
          by_cases e : k = (i + j) / 2
          · subst e
            rw [unhide HY] at hu
            simp at hu
            omega
          · have := Q.rise_lt (unhide HRI) (i := (i + j) / 2) (k := k) (by omega) (unhide HY) hu
            omega
        case measure => simp [intOf]; omega
    · obtain rfl : i = j := by omega
      have hah : Q.ahead l x = i := Q.ahead_is hj (unhide H1) (fun u hu => by have := unhide H2 i u (Nat.le_refl _) hu; omega)
      have HAH := hide hah
      have HMA := hide (Q.mem_ahead (x := x) (unhide HRI))
      clear hah hlt hij
      by_cases hil : i < l.length
      · obtain ⟨b, off, rfl, hb, hc⟩ := ho (by omega)
        have c1 := hc i hil
        obtain ⟨y, hy⟩ : ∃ y, l[i]? = some y := ⟨l[i], List.getElem?_eq_getElem hil⟩
        have c2 : w.cell? ⟨b, off + i, none⟩ = some (.int .i64 y) := by rw [c1]; simp [List.getD, hy]
        have HY := hide hy
        have hii : ¬ (i < i) := Nat.lt_irrefl _
        clear ho hc c1 hy
        by_cases hyx : y = x
        · have hb1 : (y == x) = true := by simpa using hyx
          have HYX := hide hyx
          clear hyx
          go_wp2
          exact bodyPost_ret (v := .tuple #[.int .i64 i, .bool true]) (by simp [results, Try.results30, go_sem]) rfl ⟨by rw [unhide HAH, show decide (x ∈ l) = true by rw [decide_eq_true_iff, unhide HMA, unhide HAH, unhide HY, unhide HYX]], rfl⟩
        · have hb1 : (y == x) = false := by simpa using hyx
          have HYX := hide hyx
          clear hyx
          go_wp2_with (go_at_call 52; refine (nan_any _ _).mono ?_; rintro e w' ⟨rfl, rfl⟩)
          exact bodyPost_ret (v := .tuple #[.int .i64 i, .bool false]) (by simp [results, Try.results30, go_sem]) rfl ⟨by rw [unhide HAH, show decide (x ∈ l) = false by rw [decide_eq_false_iff_not, unhide HMA, unhide HAH, unhide HY]; simpa using unhide HYX], rfl⟩
      · have hii : ¬ (i < i) := Nat.lt_irrefl _
        go_wp2
        exact bodyPost_ret (v := .tuple #[.int .i64 i, .bool false]) (by simp [results, Try.results30, go_sem]) rfl ⟨by rw [unhide HAH, show decide (x ∈ l) = false by rw [decide_eq_false_iff_not, unhide HMA, unhide HAH, List.getElem?_eq_none (by omega)]; simp], rfl⟩
end Go.Proofs.Ytjkaidlgooemoaa
