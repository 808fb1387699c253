/-
  The contract of Do.
-/
import Derived.Test.YtnhhmohicjgpgaaWrite3
import Derived.Test.YtnhhmohicjgpgaaOwn
import Derived.Laws.EntriesVeiled
namespace Go.Proofs.Ytnhhmohicjgpgaa
open Go.RowKit

theorem frozen_keep {w w1 : World} {p : Addr} {x : Bool} (h : w.frozen? p = x) (hb : Below w.heap.size w w1) (hp : p.block < w.heap.size) : w1.frozen? p = x := by
  rw [hb.frozen hp]
  exact h

theorem cell_set2 {w : World} {N : Nat} {p : Addr} {x u0 u1 : Value} (h : w.cell? p = some x) (h0 : p ≠ ⟨N, 0, none⟩) (h1 : p ≠ ⟨N, 1, none⟩) : ((w.setCell ⟨N, 0, none⟩ u0).setCell ⟨N, 1, none⟩ u1).cell? p = some x := by
  rw [World.cell?_setCell_other _ _ _ _ (Ne.symm h1), World.cell?_setCell_other _ _ _ _ (Ne.symm h0)]
  exact h

/-- What is stored into the two cells of a disk that is handed back turns no bytes .. -/
theorem Sl.set2 {w : World} {N : Nat} {v : Value} {zs : List Int} (h : Sl .u8 w v zs) {n : Int} {a : Option Addr} {l c : Nat} (h0 : w.cell? ⟨N, 0, none⟩ = some (.int .i64 n)) (h1 : w.cell? ⟨N, 1, none⟩ = some (.slice a l c)) (u0 u1 : Value) : Sl .u8 ((w.setCell ⟨N, 0, none⟩ u0).setCell ⟨N, 1, none⟩ u1) v zs := by
  obtain ⟨a', cap, hv, hl, hm, hn, hc⟩ := h
  refine ⟨a', cap, hv, hl, hm, hn, fun x hx i hi => ?_⟩
  have hh := hc x hx i hi
  refine cell_set2 hh ?_ ?_
  · intro e
    rw [e, h0] at hh
    simp at hh
  · intro e
    rw [e, h1] at hh
    simp at hh

/-- .. and no files. -/
theorem Fl.set2 {w : World} {N : Nat} {v : Value} {L : List Pf} (h : Fl w v L) {n : Int} {a : Option Addr} {l c : Nat} (h0 : w.cell? ⟨N, 0, none⟩ = some (.int .i64 n)) (h1 : w.cell? ⟨N, 1, none⟩ = some (.slice a l c)) (u0 u1 : Value) : Fl ((w.setCell ⟨N, 0, none⟩ u0).setCell ⟨N, 1, none⟩ u1) v L := by
  obtain ⟨a', cap, hv, hl, hm, hn, hc⟩ := h
  refine ⟨a', cap, hv, hl, hm, hn, fun x hx i f hf => ?_⟩
  obtain ⟨dv, g0, g1, g2, g3⟩ := hc x hx i f hf
  have hlen : 0 < L.length := by have := (List.getElem?_eq_some_iff.1 hf).1; omega
  obtain ⟨dv0, z0, -⟩ := hc x hx 0 L[0] (List.getElem?_eq_getElem hlen)
  obtain ⟨b, off, spot⟩ := x
  have hsp : spot = none := by simpa [Addr.add] using World.cell?_spot z0
  subst hsp
  simp only [Addr.add_lit] at g0 g1 g2 ⊢
  refine ⟨dv, cell_set2 g0 ?_ ?_, cell_set2 g1 ?_ ?_, cell_set2 g2 ?_ ?_, g3.set2 h0 h1 u0 u1⟩
  · intro e; rw [e, h0] at g0; simp at g0
  · intro e; rw [e, h1] at g0; simp at g0
  · intro e
    rw [e, h0] at g1
    obtain ⟨ga, gc, rfl, -⟩ := g3
    simp at g1
  · intro e
    simp only [Addr.mk.injEq, and_true] at e
    have e2 : off + i * 3 = 0 := by omega
    rw [e.1, e2, h0] at g0
    simp at g0
  · intro e; rw [e, h0] at g2; simp at g2
  · intro e; rw [e, h1] at g2; simp at g2


set_option maxHeartbeats 4000000 in
theorem do_no (kind cap : Int) (v dv : Value) (L : List Pf) (A B : ByteArray) (z : List Int) (w : World) (h : Fl w v L) (hdv : Sl .u8 w dv z) (hA : A.size ≤ maxLen) (hf : Fits L) (hcan : K.can kind cap L A = false) :
    Calls Try.prog 25 #[.agg #[.int .i64 cap, v], .agg #[.int .i64 kind, .string A, .string B, dv]] w fun e w' => ∃ v', e = .returned (.tuple #[.agg #[.int .i64 cap, v'], .int .i64 1]) ∧ Fl w' v' L ∧ Below w.heap.size w w' := by
  obtain ⟨a, sc, rfl, hl, hm, hna, -⟩ := h.open
  obtain ⟨dda, ddc, rfl, -⟩ := id hdv
  obtain ⟨W, hW⟩ : ∃ W, W = (((w.alloc (.cells #[.int .i64 cap, .slice a L.length sc] 24)).alloc (.cells #[.int .i64 kind, .string A, .string B, .slice dda z.length ddc] 39)).alloc (.cells #[.int .i64 0, .slice none 0 0] 24)) := ⟨_, rfl⟩
  have B0 : Below w.heap.size w W := by rw [hW]; exact ((below_alloc _ _).alloc (by simp) _).alloc (by simp; omega) _
  have H0 := h.below B0
  have S0 := hdv.below B0
  have c0 : W.cell? ⟨w.heap.size, 0, none⟩ = some (.int .i64 cap) := by rw [hW]; simp [go_sem]
  have c1 : W.cell? ⟨w.heap.size, 1, none⟩ = some (.slice a L.length sc) := by rw [hW]; simp [go_sem]
  have o0 : W.cell? ⟨w.heap.size + 1, 0, none⟩ = some (.int .i64 kind) := by rw [hW]; simp [go_sem]
  have o1 : W.cell? ⟨w.heap.size + 1, 1, none⟩ = some (.string A) := by rw [hW]; simp [go_sem]
  have o2 : W.cell? ⟨w.heap.size + 1, 2, none⟩ = some (.string B) := by rw [hW]; simp [go_sem]
  have o3 : W.cell? ⟨w.heap.size + 1, 3, none⟩ = some (.slice dda z.length ddc) := by rw [hW]; simp [go_sem]
  have r0 : W.cell? ⟨w.heap.size + 1 + 1, 0, none⟩ = some (.int .i64 0) := by rw [hW]; simp [go_sem]
  have r1 : W.cell? ⟨w.heap.size + 1 + 1, 1, none⟩ = some (.slice none 0 0) := by rw [hW]; simp [go_sem]
  have n0 : W.frozen? ⟨w.heap.size + 1 + 1, 0, none⟩ = false := by rw [hW]; simp [go_sem]
  have n1 : W.frozen? ⟨w.heap.size + 1 + 1, 1, none⟩ = false := by rw [hW]; simp [go_sem]
  have hZ : w.heap.size + 1 + 1 < W.heap.size := by rw [hW]; simp
  clear h hdv
  have HW := hide hW
  clear hW S0
  cases hnm : K.name A with
  | false =>
    cases hmay : K.may cap L with
    | false =>
      go_enter Try.func25, Try.ntmps25
      go_wp2_with fail
      rw [← unhide HW]
      refine (may_b _ _ _ _ H0 hf _ hmay).mono ?_
      rintro e w1 ⟨rfl, B1⟩
      have H1 := H0.below B1
      have xc0 := cell_keep c0 B1
      have xc1 := cell_keep c1 B1
      have xo0 := cell_keep o0 B1
      have xo1 := cell_keep o1 B1
      have xo2 := cell_keep o2 B1
      have xo3 := cell_keep o3 B1
      have xr0 := cell_keep r0 B1
      have xr1 := cell_keep r1 B1
      have xn0 := frozen_keep n0 B1 (World.block_lt_of_cell? _ _ r0)
      have xn1 := frozen_keep n1 B1 (World.block_lt_of_cell? _ _ r1)
      clear H0 c0 c1 o0 o1 o2 o3 r0 r1 n0 n1
      go_wp2_with (first
        | (go_at_call 33; refine (isName_b _ _ hA _ hnm).mono ?_; rintro e w' ⟨rfl, rfl⟩)
        | (go_at_call 38; refine (own_any _ _ _ _ H1 hf).mono ?_; rintro e w2 ⟨v2, rfl, F2, B2⟩; obtain ⟨xa, xc, rfl, -⟩ := id F2; have yr0 := cell_keep xr0 B2; have yr1 := cell_keep xr1 B2; have yn0 := frozen_keep xn0 B2 (World.block_lt_of_cell? _ _ xr0); have yn1 := frozen_keep xn1 B2 (World.block_lt_of_cell? _ _ xr1); clear xr0 xr1 xn0 xn1))
      exact bodyPost_ret (v := .tuple #[.agg #[.int .i64 cap, .slice xa L.length xc], .int .i64 1]) (by simp [results, Try.results25, go_sem, yr0, yr1]) rfl ⟨_, rfl, F2.set2 yr0 yr1 _ _, ((below_trans' (below_trans' B0 B1) B2).setCell (by simp; omega) _).setCell (by simp; omega) _⟩
    | true =>
      go_enter Try.func25, Try.ntmps25
      go_wp2_with fail
      rw [← unhide HW]
      refine (may_b _ _ _ _ H0 hf _ hmay).mono ?_
      rintro e w1 ⟨rfl, B1⟩
      have H1 := H0.below B1
      have xc0 := cell_keep c0 B1
      have xc1 := cell_keep c1 B1
      have xo0 := cell_keep o0 B1
      have xo1 := cell_keep o1 B1
      have xo2 := cell_keep o2 B1
      have xo3 := cell_keep o3 B1
      have xr0 := cell_keep r0 B1
      have xr1 := cell_keep r1 B1
      have xn0 := frozen_keep n0 B1 (World.block_lt_of_cell? _ _ r0)
      have xn1 := frozen_keep n1 B1 (World.block_lt_of_cell? _ _ r1)
      clear H0 c0 c1 o0 o1 o2 o3 r0 r1 n0 n1
      go_wp2_with (first
        | (go_at_call 33; refine (isName_b _ _ hA _ hnm).mono ?_; rintro e w' ⟨rfl, rfl⟩)
        | (go_at_call 38; refine (own_any _ _ _ _ H1 hf).mono ?_; rintro e w2 ⟨v2, rfl, F2, B2⟩; obtain ⟨xa, xc, rfl, -⟩ := id F2; have yr0 := cell_keep xr0 B2; have yr1 := cell_keep xr1 B2; have yn0 := frozen_keep xn0 B2 (World.block_lt_of_cell? _ _ xr0); have yn1 := frozen_keep xn1 B2 (World.block_lt_of_cell? _ _ xr1); clear xr0 xr1 xn0 xn1))
      exact bodyPost_ret (v := .tuple #[.agg #[.int .i64 cap, .slice xa L.length xc], .int .i64 1]) (by simp [results, Try.results25, go_sem, yr0, yr1]) rfl ⟨_, rfl, F2.set2 yr0 yr1 _ _, ((below_trans' (below_trans' B0 B1) B2).setCell (by simp; omega) _).setCell (by simp; omega) _⟩
  | true =>
    cases hmay : K.may cap L with
    | false =>
      go_enter Try.func25, Try.ntmps25
      go_wp2_with fail
      rw [← unhide HW]
      refine (may_b _ _ _ _ H0 hf _ hmay).mono ?_
      rintro e w1 ⟨rfl, B1⟩
      have H1 := H0.below B1
      have xc0 := cell_keep c0 B1
      have xc1 := cell_keep c1 B1
      have xo0 := cell_keep o0 B1
      have xo1 := cell_keep o1 B1
      have xo2 := cell_keep o2 B1
      have xo3 := cell_keep o3 B1
      have xr0 := cell_keep r0 B1
      have xr1 := cell_keep r1 B1
      have xn0 := frozen_keep n0 B1 (World.block_lt_of_cell? _ _ r0)
      have xn1 := frozen_keep n1 B1 (World.block_lt_of_cell? _ _ r1)
      clear H0 c0 c1 o0 o1 o2 o3 r0 r1 n0 n1
      go_wp2_with (first
        | (go_at_call 33; refine (isName_b _ _ hA _ hnm).mono ?_; rintro e w' ⟨rfl, rfl⟩)
        | (go_at_call 38; refine (own_any _ _ _ _ H1 hf).mono ?_; rintro e w2 ⟨v2, rfl, F2, B2⟩; obtain ⟨xa, xc, rfl, -⟩ := id F2; have yr0 := cell_keep xr0 B2; have yr1 := cell_keep xr1 B2; have yn0 := frozen_keep xn0 B2 (World.block_lt_of_cell? _ _ xr0); have yn1 := frozen_keep xn1 B2 (World.block_lt_of_cell? _ _ xr1); clear xr0 xr1 xn0 xn1))
      exact bodyPost_ret (v := .tuple #[.agg #[.int .i64 cap, .slice xa L.length xc], .int .i64 1]) (by simp [results, Try.results25, go_sem, yr0, yr1]) rfl ⟨_, rfl, F2.set2 yr0 yr1 _ _, ((below_trans' (below_trans' B0 B1) B2).setCell (by simp; omega) _).setCell (by simp; omega) _⟩
    | true =>
      by_cases hk0 : kind < 0
      · have hk0' : decide (kind < 0) = true := by simpa using hk0
        go_enter Try.func25, Try.ntmps25
        go_wp2_with fail
        rw [← unhide HW]
        refine (may_b _ _ _ _ H0 hf _ hmay).mono ?_
        rintro e w1 ⟨rfl, B1⟩
        have H1 := H0.below B1
        have xc0 := cell_keep c0 B1
        have xc1 := cell_keep c1 B1
        have xo0 := cell_keep o0 B1
        have xo1 := cell_keep o1 B1
        have xo2 := cell_keep o2 B1
        have xo3 := cell_keep o3 B1
        have xr0 := cell_keep r0 B1
        have xr1 := cell_keep r1 B1
        have xn0 := frozen_keep n0 B1 (World.block_lt_of_cell? _ _ r0)
        have xn1 := frozen_keep n1 B1 (World.block_lt_of_cell? _ _ r1)
        clear H0 c0 c1 o0 o1 o2 o3 r0 r1 n0 n1
        go_wp2_with (first
          | (go_at_call 33; refine (isName_b _ _ hA _ hnm).mono ?_; rintro e w' ⟨rfl, rfl⟩)
          | (go_at_call 38; refine (own_any _ _ _ _ H1 hf).mono ?_; rintro e w2 ⟨v2, rfl, F2, B2⟩; obtain ⟨xa, xc, rfl, -⟩ := id F2; have yr0 := cell_keep xr0 B2; have yr1 := cell_keep xr1 B2; have yn0 := frozen_keep xn0 B2 (World.block_lt_of_cell? _ _ xr0); have yn1 := frozen_keep xn1 B2 (World.block_lt_of_cell? _ _ xr1); clear xr0 xr1 xn0 xn1))
        exact bodyPost_ret (v := .tuple #[.agg #[.int .i64 cap, .slice xa L.length xc], .int .i64 1]) (by simp [results, Try.results25, go_sem, yr0, yr1]) rfl ⟨_, rfl, F2.set2 yr0 yr1 _ _, ((below_trans' (below_trans' B0 B1) B2).setCell (by simp; omega) _).setCell (by simp; omega) _⟩
      · have hk0' : decide (kind < 0) = false := by simpa using hk0
        have hk4 : 4 ≤ kind := by
          simp [K.can, hmay, hnm] at hcan
          omega
        have hk4' : decide (4 ≤ kind) = true := by simpa using hk4
        go_enter Try.func25, Try.ntmps25
        go_wp2_with fail
        rw [← unhide HW]
        refine (may_b _ _ _ _ H0 hf _ hmay).mono ?_
        rintro e w1 ⟨rfl, B1⟩
        have H1 := H0.below B1
        have xc0 := cell_keep c0 B1
        have xc1 := cell_keep c1 B1
        have xo0 := cell_keep o0 B1
        have xo1 := cell_keep o1 B1
        have xo2 := cell_keep o2 B1
        have xo3 := cell_keep o3 B1
        have xr0 := cell_keep r0 B1
        have xr1 := cell_keep r1 B1
        have xn0 := frozen_keep n0 B1 (World.block_lt_of_cell? _ _ r0)
        have xn1 := frozen_keep n1 B1 (World.block_lt_of_cell? _ _ r1)
        clear H0 c0 c1 o0 o1 o2 o3 r0 r1 n0 n1
        go_wp2_with (first
          | (go_at_call 33; refine (isName_b _ _ hA _ hnm).mono ?_; rintro e w' ⟨rfl, rfl⟩)
          | (go_at_call 38; refine (own_any _ _ _ _ H1 hf).mono ?_; rintro e w2 ⟨v2, rfl, F2, B2⟩; obtain ⟨xa, xc, rfl, -⟩ := id F2; have yr0 := cell_keep xr0 B2; have yr1 := cell_keep xr1 B2; have yn0 := frozen_keep xn0 B2 (World.block_lt_of_cell? _ _ xr0); have yn1 := frozen_keep xn1 B2 (World.block_lt_of_cell? _ _ xr1); clear xr0 xr1 xn0 xn1))
        exact bodyPost_ret (v := .tuple #[.agg #[.int .i64 cap, .slice xa L.length xc], .int .i64 1]) (by simp [results, Try.results25, go_sem, yr0, yr1]) rfl ⟨_, rfl, F2.set2 yr0 yr1 _ _, ((below_trans' (below_trans' B0 B1) B2).setCell (by simp; omega) _).setCell (by simp; omega) _⟩
end Go.Proofs.Ytnhhmohicjgpgaa
