/-
  The walk of the law of cards in their order.
-/
import Derived.Test.YtdbbhdngohnemaaAwake8
import Derived.Deep.QuietTactic
import Derived.BigQuiet
namespace Go.Proofs.Ytdbbhdngohnemaa
open Go.RowKit

abbrev cdv (c : Cd) (x : Option Addr) (n m : Nat) : Array Value := #[.string c.id, .int .i64 c.key, .slice x n m]
/-- A card in its box. -/
def CB (w : World) (b : Nat) (c : Cd) (x : Option Addr) (n m : Nat) : Prop := w.heap[b]? = some (.cells #[.string c.id, .int .i64 c.key, .slice x n m] 25 (0, 0))
theorem CB.below {w w' : World} {b : Nat} {c : Cd} {x : Option Addr} {n m : Nat} (h : CB w b c x n m) (hb : Below w.heap.size w w') : CB w' b c x n m := box_below h hb
theorem CB.c0 {w : World} {b : Nat} {c : Cd} {x : Option Addr} {n m : Nat} (h : CB w b c x n m) : w.cell? ⟨b, 0, none⟩ = some (.string c.id) := box_cell h rfl
theorem CB.c1 {w : World} {b : Nat} {c : Cd} {x : Option Addr} {n m : Nat} (h : CB w b c x n m) : w.cell? ⟨b, 1, none⟩ = some (.int .i64 c.key) := box_cell h rfl
theorem CB.c2 {w : World} {b : Nat} {c : Cd} {x : Option Addr} {n m : Nat} (h : CB w b c x n m) : w.cell? ⟨b, 2, none⟩ = some (.slice x n m) := box_cell h rfl

theorem ne_toList {x y : ByteArray} (h : x ≠ y) : (x.toList == y.toList) = false := by
  rw [K.eq_to]; simpa using h

set_option maxRecDepth 100000 in
set_option maxHeartbeats 8000000 in
theorem segOrder_walk (a b c : Cd) (xa xb xc : Option Addr) (na ma nb mb nc mc : Nat) (w : World) :
    Calls Try.prog 6 #[.agg #[.string a.id, .int .i64 a.key, .slice xa na ma], .agg #[.string b.id, .int .i64 b.key, .slice xb nb mb], .agg #[.string c.id, .int .i64 c.key, .slice xc nc mc]] w fun e w' => e = .returned (.bool true) ∧ Below w.heap.size w w' := by
  obtain ⟨W, hW⟩ : ∃ W, W = ((w.alloc (.cells #[.string a.id, .int .i64 a.key, .slice xa na ma] 25)).alloc (.cells #[.string b.id, .int .i64 b.key, .slice xb nb mb] 25)).alloc (.cells #[.string c.id, .int .i64 c.key, .slice xc nc mc] 25) := ⟨_, rfl⟩
  have BW : Below w.heap.size w W := by rw [hW]; exact below_all (below_all (below_alloc _ _) _) _
  have XA : CB W w.heap.size a xa na ma := by
    rw [hW]
    exact box_below (box_below (heap_alloc_new w _) (below_alloc _ _)) (below_alloc _ _)
  have XB : CB W (w.heap.size + 1) b xb nb mb := by
    have := heap_alloc_new (w.alloc (.cells #[.string a.id, .int .i64 a.key, .slice xa na ma] 25)) (.cells #[.string b.id, .int .i64 b.key, .slice xb nb mb] 25)
    rw [show (w.alloc (.cells #[.string a.id, .int .i64 a.key, .slice xa na ma] 25)).heap.size = w.heap.size + 1 by simp] at this
    rw [hW]
    exact box_below this (below_alloc _ _)
  have XC : CB W (w.heap.size + 2) c xc nc mc := by
    have := heap_alloc_new ((w.alloc (.cells #[.string a.id, .int .i64 a.key, .slice xa na ma] 25)).alloc (.cells #[.string b.id, .int .i64 b.key, .slice xb nb mb] 25)) (.cells #[.string c.id, .int .i64 c.key, .slice xc nc mc] 25)
    rw [show ((w.alloc (.cells #[.string a.id, .int .i64 a.key, .slice xa na ma] 25)).alloc (.cells #[.string b.id, .int .i64 b.key, .slice xb nb mb] 25)).heap.size = w.heap.size + 2 by simp] at this
    rw [hW]
    exact this
  have HW := hide hW
  clear hW
  go_enter Try.func6, Try.ntmps6
  go_wp2_with fail
  rw [← unhide HW]
  refine (awake_any W).mono ?_
  rintro e w1 ⟨rfl, B1⟩
  replace XA := XA.below B1
  replace XB := XB.below B1
  replace XC := XC.below B1
  have BB := below_trans' BW B1
  obtain ⟨pa, hpa⟩ : ∃ pa, w.heap.size = pa := ⟨_, rfl⟩
  have HP := hide hpa
  obtain ⟨pb, hpb⟩ : ∃ pb, w.heap.size + 1 = pb := ⟨_, rfl⟩
  have hpc : w.heap.size + 2 = pb + 1 := by omega
  rw [hpc] at XC
  rw [hpb] at XB
  simp only [hpb]
  rw [hpa] at XA
  simp only [hpa]
  clear B1 BW HW hpa hpb hpc
  have a0 := XA.c0
  have a1 := XA.c1
  have a2 := XA.c2
  have b0 := XB.c0
  have b1 := XB.c1
  have b2 := XB.c2
  have c0 := XC.c0
  have c1 := XC.c1
  have c2 := XC.c2
  by_cases h1 : (40 : Int) < a.id.size
  · go_wp2
    go_ret
    exact ⟨rfl, BB⟩
  by_cases h2 : (40 : Int) < b.id.size
  · go_wp2
    go_ret
    exact ⟨rfl, BB⟩
  by_cases h3 : (40 : Int) < c.id.size
  · go_wp2
    go_ret
    exact ⟨rfl, BB⟩
  by_cases hk : a.key = b.key
  · have q1 : (a.key == b.key) = true := by simpa using hk
    have q2 : decide (a.key = b.key) = true := by simpa using hk
    have q5 : decide (b.key ≤ a.key) = true := by simp; omega
    have HK := hide hk
    clear hk
    by_cases hi : a.id = b.id
    · have q3 : (a.id.toList == b.id.toList) = true := by rw [hi]; simp
      have H1 : Hid (S.before a b = false) := hide (by simp [S.before, unhide HK, hi, K.lt_irrefl])
      have H2 : Hid (S.before b a = false) := hide (by simp [S.before, unhide HK, hi, K.lt_irrefl])
      clear hi
      go_wp2_with fail
      refine (before_b a b _ _ _ _ _ _ _ false (unhide H1)).mono ?_
      rintro e w2 ⟨rfl, B2⟩
      replace XA := XA.below B2
      replace XB := XB.below B2
      replace XC := XC.below B2
      replace BB := below_trans' BB B2
      clear B2 a0 a1 a2 b0 b1 b2 c0 c1 c2
      have a0 := XA.c0
      have a1 := XA.c1
      have a2 := XA.c2
      have b0 := XB.c0
      have b1 := XB.c1
      have b2 := XB.c2
      have c0 := XC.c0
      have c1 := XC.c1
      have c2 := XC.c2
      go_wp2_with fail
      refine (before_b b a _ _ _ _ _ _ _ false (unhide H2)).mono ?_
      rintro e w3 ⟨rfl, B3⟩
      replace XA := XA.below B3
      replace XB := XB.below B3
      replace XC := XC.below B3
      replace BB := below_trans' BB B3
      clear B3 a0 a1 a2 b0 b1 b2 c0 c1 c2
      have a0 := XA.c0
      have a1 := XA.c1
      have a2 := XA.c2
      have b0 := XB.c0
      have b1 := XB.c1
      have b2 := XB.c2
      have c0 := XC.c0
      have c1 := XC.c1
      have c2 := XC.c2
      go_wp2_with fail
      go_ret
      exact ⟨rfl, BB⟩
    · have q3 := ne_toList hi
      cases h1 : S.before a b with
      | true =>
        have H1 := hide h1
        have H2 := hide (S.before_asymm h1)
        clear h1 hi
        go_wp2_with fail
        refine (before_b a b _ _ _ _ _ _ _ true (unhide H1)).mono ?_
        rintro e w2 ⟨rfl, B2⟩
        replace XA := XA.below B2
        replace XB := XB.below B2
        replace XC := XC.below B2
        replace BB := below_trans' BB B2
        clear B2 a0 a1 a2 b0 b1 b2 c0 c1 c2
        have a0 := XA.c0
        have a1 := XA.c1
        have a2 := XA.c2
        have b0 := XB.c0
        have b1 := XB.c1
        have b2 := XB.c2
        have c0 := XC.c0
        have c1 := XC.c1
        have c2 := XC.c2
        go_wp2_with fail
        refine (before_b b a _ _ _ _ _ _ _ false (unhide H2)).mono ?_
        rintro e w3 ⟨rfl, B3⟩
        replace XA := XA.below B3
        replace XB := XB.below B3
        replace XC := XC.below B3
        replace BB := below_trans' BB B3
        clear B3 a0 a1 a2 b0 b1 b2 c0 c1 c2
        have a0 := XA.c0
        have a1 := XA.c1
        have a2 := XA.c2
        have b0 := XB.c0
        have b1 := XB.c1
        have b2 := XB.c2
        have c0 := XC.c0
        have c1 := XC.c1
        have c2 := XC.c2
        cases hr3 : S.before b c with
        | false =>
          have H3 := hide hr3
          clear hr3
          go_wp2_with fail
          refine (before_b b c _ _ _ _ _ _ _ false (unhide H3)).mono ?_
          rintro e w4 ⟨rfl, B4⟩
          replace XA := XA.below B4
          replace XB := XB.below B4
          replace XC := XC.below B4
          replace BB := below_trans' BB B4
          clear B4 a0 a1 a2 b0 b1 b2 c0 c1 c2
          have a0 := XA.c0
          have a1 := XA.c1
          have a2 := XA.c2
          have b0 := XB.c0
          have b1 := XB.c1
          have b2 := XB.c2
          have c0 := XC.c0
          have c1 := XC.c1
          have c2 := XC.c2
          go_wp2_with fail
          go_ret
          exact ⟨rfl, BB⟩
        | true =>
          have H3 := hide hr3
          have H4 := hide (S.before_trans (unhide H1) hr3)
          clear hr3
          go_wp2_with fail
          refine (before_b b c _ _ _ _ _ _ _ true (unhide H3)).mono ?_
          rintro e w4 ⟨rfl, B4⟩
          replace XA := XA.below B4
          replace XB := XB.below B4
          replace XC := XC.below B4
          replace BB := below_trans' BB B4
          clear B4 a0 a1 a2 b0 b1 b2 c0 c1 c2
          have a0 := XA.c0
          have a1 := XA.c1
          have a2 := XA.c2
          have b0 := XB.c0
          have b1 := XB.c1
          have b2 := XB.c2
          have c0 := XC.c0
          have c1 := XC.c1
          have c2 := XC.c2
          go_wp2_with fail
          refine (before_b a c _ _ _ _ _ _ _ true (unhide H4)).mono ?_
          rintro e w5 ⟨rfl, B5⟩
          replace XA := XA.below B5
          replace XB := XB.below B5
          replace XC := XC.below B5
          replace BB := below_trans' BB B5
          clear B5 a0 a1 a2 b0 b1 b2 c0 c1 c2
          have a0 := XA.c0
          have a1 := XA.c1
          have a2 := XA.c2
          have b0 := XB.c0
          have b1 := XB.c1
          have b2 := XB.c2
          have c0 := XC.c0
          have c1 := XC.c1
          have c2 := XC.c2
          go_wp2_with fail
          go_ret
          exact ⟨rfl, BB⟩
      | false =>
        have H1 := hide h1
        have H2 : Hid (S.before b a = true) := by
          cases h2 : S.before b a with
          | true => exact hide rfl
          | false => exact absurd (S.before_tri h1 h2).2 hi
        clear h1 hi
        go_wp2_with fail
        refine (before_b a b _ _ _ _ _ _ _ false (unhide H1)).mono ?_
        rintro e w2 ⟨rfl, B2⟩
        replace XA := XA.below B2
        replace XB := XB.below B2
        replace XC := XC.below B2
        replace BB := below_trans' BB B2
        clear B2 a0 a1 a2 b0 b1 b2 c0 c1 c2
        have a0 := XA.c0
        have a1 := XA.c1
        have a2 := XA.c2
        have b0 := XB.c0
        have b1 := XB.c1
        have b2 := XB.c2
        have c0 := XC.c0
        have c1 := XC.c1
        have c2 := XC.c2
        go_wp2_with fail
        refine (before_b b a _ _ _ _ _ _ _ true (unhide H2)).mono ?_
        rintro e w3 ⟨rfl, B3⟩
        replace XA := XA.below B3
        replace XB := XB.below B3
        replace XC := XC.below B3
        replace BB := below_trans' BB B3
        clear B3 a0 a1 a2 b0 b1 b2 c0 c1 c2
        have a0 := XA.c0
        have a1 := XA.c1
        have a2 := XA.c2
        have b0 := XB.c0
        have b1 := XB.c1
        have b2 := XB.c2
        have c0 := XC.c0
        have c1 := XC.c1
        have c2 := XC.c2
        go_wp2_with fail
        go_ret
        exact ⟨rfl, BB⟩
  · have q1 : (a.key == b.key) = false := by simpa using hk
    have q2 : decide (a.key = b.key) = false := by simpa using hk
    rcases Int.lt_or_lt_of_ne hk with hlt | hlt
    · have H1 : Hid (S.before a b = true) := hide (S.before_iff.2 (.inl hlt))
      have H2 : Hid (S.before b a = false) := hide (S.before_asymm (S.before_iff.2 (.inl hlt)))
      have q5 : decide (b.key ≤ a.key) = false := by simp; omega
      clear hlt hk
      go_wp2_with fail
      refine (before_b a b _ _ _ _ _ _ _ true (unhide H1)).mono ?_
      rintro e w2 ⟨rfl, B2⟩
      replace XA := XA.below B2
      replace XB := XB.below B2
      replace XC := XC.below B2
      replace BB := below_trans' BB B2
      clear B2 a0 a1 a2 b0 b1 b2 c0 c1 c2
      have a0 := XA.c0
      have a1 := XA.c1
      have a2 := XA.c2
      have b0 := XB.c0
      have b1 := XB.c1
      have b2 := XB.c2
      have c0 := XC.c0
      have c1 := XC.c1
      have c2 := XC.c2
      go_wp2_with fail
      refine (before_b b a _ _ _ _ _ _ _ false (unhide H2)).mono ?_
      rintro e w3 ⟨rfl, B3⟩
      replace XA := XA.below B3
      replace XB := XB.below B3
      replace XC := XC.below B3
      replace BB := below_trans' BB B3
      clear B3 a0 a1 a2 b0 b1 b2 c0 c1 c2
      have a0 := XA.c0
      have a1 := XA.c1
      have a2 := XA.c2
      have b0 := XB.c0
      have b1 := XB.c1
      have b2 := XB.c2
      have c0 := XC.c0
      have c1 := XC.c1
      have c2 := XC.c2
      cases hr3 : S.before b c with
      | false =>
        have H3 := hide hr3
        clear hr3
        go_wp2_with fail
        refine (before_b b c _ _ _ _ _ _ _ false (unhide H3)).mono ?_
        rintro e w4 ⟨rfl, B4⟩
        replace XA := XA.below B4
        replace XB := XB.below B4
        replace XC := XC.below B4
        replace BB := below_trans' BB B4
        clear B4 a0 a1 a2 b0 b1 b2 c0 c1 c2
        have a0 := XA.c0
        have a1 := XA.c1
        have a2 := XA.c2
        have b0 := XB.c0
        have b1 := XB.c1
        have b2 := XB.c2
        have c0 := XC.c0
        have c1 := XC.c1
        have c2 := XC.c2
        go_wp2_with fail
        go_ret
        exact ⟨rfl, BB⟩
      | true =>
        have H3 := hide hr3
        have H4 := hide (S.before_trans (unhide H1) hr3)
        clear hr3
        go_wp2_with fail
        refine (before_b b c _ _ _ _ _ _ _ true (unhide H3)).mono ?_
        rintro e w4 ⟨rfl, B4⟩
        replace XA := XA.below B4
        replace XB := XB.below B4
        replace XC := XC.below B4
        replace BB := below_trans' BB B4
        clear B4 a0 a1 a2 b0 b1 b2 c0 c1 c2
        have a0 := XA.c0
        have a1 := XA.c1
        have a2 := XA.c2
        have b0 := XB.c0
        have b1 := XB.c1
        have b2 := XB.c2
        have c0 := XC.c0
        have c1 := XC.c1
        have c2 := XC.c2
        go_wp2_with fail
        refine (before_b a c _ _ _ _ _ _ _ true (unhide H4)).mono ?_
        rintro e w5 ⟨rfl, B5⟩
        replace XA := XA.below B5
        replace XB := XB.below B5
        replace XC := XC.below B5
        replace BB := below_trans' BB B5
        clear B5 a0 a1 a2 b0 b1 b2 c0 c1 c2
        have a0 := XA.c0
        have a1 := XA.c1
        have a2 := XA.c2
        have b0 := XB.c0
        have b1 := XB.c1
        have b2 := XB.c2
        have c0 := XC.c0
        have c1 := XC.c1
        have c2 := XC.c2
        go_wp2_with fail
        go_ret
        exact ⟨rfl, BB⟩
    · have H1 : Hid (S.before a b = false) := hide (S.before_asymm (S.before_iff.2 (.inl hlt)))
      have H2 : Hid (S.before b a = true) := hide (S.before_iff.2 (.inl hlt))
      have q5 : decide (b.key ≤ a.key) = true := by simp; omega
      clear hlt hk
      go_wp2_with fail
      refine (before_b a b _ _ _ _ _ _ _ false (unhide H1)).mono ?_
      rintro e w2 ⟨rfl, B2⟩
      replace XA := XA.below B2
      replace XB := XB.below B2
      replace XC := XC.below B2
      replace BB := below_trans' BB B2
      clear B2 a0 a1 a2 b0 b1 b2 c0 c1 c2
      have a0 := XA.c0
      have a1 := XA.c1
      have a2 := XA.c2
      have b0 := XB.c0
      have b1 := XB.c1
      have b2 := XB.c2
      have c0 := XC.c0
      have c1 := XC.c1
      have c2 := XC.c2
      go_wp2_with fail
      refine (before_b b a _ _ _ _ _ _ _ true (unhide H2)).mono ?_
      rintro e w3 ⟨rfl, B3⟩
      replace XA := XA.below B3
      replace XB := XB.below B3
      replace XC := XC.below B3
      replace BB := below_trans' BB B3
      clear B3 a0 a1 a2 b0 b1 b2 c0 c1 c2
      have a0 := XA.c0
      have a1 := XA.c1
      have a2 := XA.c2
      have b0 := XB.c0
      have b1 := XB.c1
      have b2 := XB.c2
      have c0 := XC.c0
      have c1 := XC.c1
      have c2 := XC.c2
      go_wp2_with fail
      go_ret
      exact ⟨rfl, BB⟩
end Go.Proofs.Ytdbbhdngohnemaa
