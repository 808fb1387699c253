/-
  The contracts of Less, the program's and the document's, and of the function that tells whether two rows of bytes are the same.
-/
import Derived.Test.YtgdaohjmepgmmaaLess4
namespace Go.Proofs.Ytgdaohjmepgmmaa
open Go.RowKit

theorem less_any (va vb : Value) (a b : List Bool) (w : World) (ha : Gl .bool w va a) (hb : Gl .bool w vb b) :
    Calls Try.prog 23 #[va, vb] w fun e w' => e = .returned (.bool (L.less a b)) ∧ ∃ n, w' = w.drewN n := by
  obtain ⟨aa, ca, rfl, la, ma, na, oa⟩ := ha.open
  obtain ⟨ab, cb, rfl, lb, mb, nb, ob⟩ := hb.open
  clear oa ob na nb
  go_enter Try.func23, Try.ntmps23
  go_wp2_with fail
  refine (all_any _ _ a b _ ha hb).mono ?_
  rintro e w1 ⟨rfl, n, rfl⟩
  go_wp2
  go_ret
  exact ⟨rfl, n, rfl⟩

set_option maxHeartbeats 400000 in
theorem rless_any (va vb : Value) (a b : List Bool) (w : World) (ha : Gl .bool w va a) (hb : Gl .bool w vb b) :
    Calls Try.prog 24 #[va, vb] w fun e w' => e = .returned (.bool (L.less a b)) ∧ w' = w := by
  obtain ⟨aa, ca, rfl, la, ma, na, oa⟩ := ha.open
  obtain ⟨ab, cb, rfl, lb, mb, nb, ob⟩ := hb.open
  clear ha hb
  by_cases hl : a.length = b.length
  · have HL := hide hl
    have h0 : ((a.length : Int) != (b.length : Int)) = false := by simp [hl]
    clear hl
    go_enter Try.func24, Try.ntmps24
    go_wp2
    go_loop [5] (fun i => ∃ k : Nat, k ≤ a.length ∧ i = .int .i64 k ∧ upto a b k) (fun i => a.length - (intOf i).toNat)
    case atStart => exact ⟨0, Nat.zero_le _, rfl, fun i hi => by omega⟩
    case round =>
      obtain ⟨k, hk, rfl, ht⟩ := hrel
      have HT := hide ht
      clear ht
      by_cases hlt : k < a.length
      · have hltb : k < b.length := by have := HL.out; omega
        obtain ⟨ba, fa, rfl, _, ca⟩ := oa (by omega)
        obtain ⟨bb, fb, rfl, _, cb⟩ := ob (by omega)
        obtain ⟨x, hx⟩ : ∃ x, a[k]? = some x := ⟨a[k], List.getElem?_eq_getElem hlt⟩
        obtain ⟨y, hy⟩ : ∃ y, b[k]? = some y := ⟨b[k], List.getElem?_eq_getElem hltb⟩
        have c1 := ca k x hx
        have c2 := cb k y hy
        have HX := hide hx
        have HY := hide hy
        clear ca cb oa ob hx hy
        cases x <;> cases y
        · go_wp2
          go_round
          case rel => exact ⟨k + 1, by omega, by go_num, upto_step (unhide HX) (unhide HY) (by decide) (unhide HT)⟩
          case measure => simp [intOf]; omega
        · go_wp2
          go_round
          case rel => exact ⟨k + 1, by omega, by go_num, upto_step (unhide HX) (unhide HY) (by decide) (unhide HT)⟩
          case measure => simp [intOf]; omega
        · go_wp2
          go_ret
          exact ⟨by rw [less_not (unhide HX) (unhide HY)]; rfl, rfl⟩
        · go_wp2
          go_round
          case rel => exact ⟨k + 1, by omega, by go_num, upto_step (unhide HX) (unhide HY) (by decide) (unhide HT)⟩
          case measure => simp [intOf]; omega
      · go_wp2
        go_ret
        exact ⟨by rw [less_end (unhide HL) hlt (unhide HT)]; rfl, rfl⟩
  · have h0 : ((a.length : Int) != (b.length : Int)) = true := by rw [bne_iff_ne]; omega
    go_enter Try.func24, Try.ntmps24
    go_wp2
    go_ret
    exact ⟨by rw [less_len hl]; rfl, rfl⟩

theorem eqb_any (x y : Int) (w : World) : Calls Try.prog 35 #[.int .u8 x, .int .u8 y] w fun e w' => e = .returned (.bool (x == y)) ∧ w' = w := by
  go_enter Try.func35, Try.ntmps35
  go_wp2
  go_ret
  exact ⟨rfl, rfl⟩

set_option maxHeartbeats 400000 in
theorem allb_any (va vb : Value) (a b : List Int) (w : World) (ha : Sl .u8 w va a) (hb : Sl .u8 w vb b) :
    Calls Try.prog 34 #[va, vb, .func (.func 35) #[] #[]] w fun e w' => e = .returned (.bool (decide (a = b))) ∧ ∃ n, w' = w.drewN n := by
  obtain ⟨aa, ca, rfl, la, ma, na, oa⟩ := ha.open
  obtain ⟨ab, cb, rfl, lb, mb, nb, ob⟩ := hb.open
  clear ha hb
  by_cases hl : a.length = b.length
  · have HL := hide hl
    have h0 : ((a.length : Int) != (b.length : Int)) = false := by simp [hl]
    clear hl
    go_enter Try.func34, Try.ntmps34
    go_wp2
    go_loopw [15] (fun i wr => ∃ k : Nat, k ≤ a.length ∧ i = .int .i64 k ∧ a.take k = b.take k ∧ ∃ n, wr = w.drewN n) (fun i _ => a.length - (intOf i).toNat)
    case atStart => exact ⟨0, Nat.zero_le _, rfl, rfl, 0, rfl⟩
    case round =>
      obtain ⟨k, hk, rfl, ht, n, rfl⟩ := hrel
      have HT := hide ht
      clear ht
      by_cases hlt : k < a.length
      · have hltb : k < b.length := by have := HL.out; omega
        obtain ⟨ba, fa, rfl, _, ca⟩ := oa (by omega)
        obtain ⟨bb, fb, rfl, _, cb⟩ := ob (by omega)
        obtain ⟨x, hx⟩ : ∃ x, a.getD k 0 = x := ⟨_, rfl⟩
        obtain ⟨y, hy⟩ : ∃ y, b.getD k 0 = y := ⟨_, rfl⟩
        have c1 := ca k hlt
        have c2 := cb k hltb
        rw [hx] at c1
        rw [hy] at c2
        have hx' : a[k] = x := by simpa [List.getD, hlt] using hx
        have hy' : b[k] = y := by simpa [List.getD, hltb] using hy
        have HX := hide hx'
        have HY := hide hy'
        clear ca cb oa ob hx hy hx' hy'
        by_cases hxy : x = y
        · subst hxy
          go_wp2
          go_region_with (go_at_call 35; refine (eqb_any _ _ _).mono ?_; rw [beq_self_eq_true]; rintro e w1 ⟨rfl, rfl⟩)
          all_goals
            go_wp2
            go_roundw
            case rel => exact ⟨k + 1, by omega, by go_num, same_step (unhide HL) hlt (unhide HT) ((unhide HX).trans (unhide HY).symm), n + 1, rfl⟩
            case measure => simp [intOf]; omega
        · have hs : (x == y) = false := by simpa using hxy
          have HN := hide hxy
          clear hxy
          go_wp2
          go_region_with (go_at_call 35; refine (eqb_any _ _ _).mono ?_; rw [hs]; rintro e w1 ⟨rfl, rfl⟩)
          all_goals
            go_wp2
            go_ret
            exact ⟨by rw [same_not (unhide HL) hlt (by rw [unhide HX, unhide HY]; exact unhide HN)]; rfl, n + 1, rfl⟩
      · go_wp2
        go_ret
        exact ⟨by rw [same_end (unhide HL) hlt (unhide HT)]; rfl, n, rfl⟩
  · have h0 : ((a.length : Int) != (b.length : Int)) = true := by rw [bne_iff_ne]; omega
    go_enter Try.func34, Try.ntmps34
    go_wp2
    go_ret
    exact ⟨by rw [same_len hl]; rfl, 0, rfl⟩
end Go.Proofs.Ytgdaohjmepgmmaa
