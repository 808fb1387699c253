/-
  The contract of Do: drop.
-/
import Derived.Test.YtnhhmohicjgpgaaDo
namespace Go.Proofs.Ytnhhmohicjgpgaa
open Go.RowKit

set_option maxHeartbeats 4000000 in
theorem do_drop (cap : Int) (v dv : Value) (L : List Pf) (A B : ByteArray) (z : List Int) (w : World) (h : Fl w v L) (hdv : Sl .u8 w dv z) (_ : z.length ≤ 1000) (hA : A.size ≤ maxLen) (_ : B.size ≤ maxLen) (hf : Fits L) (hmay : K.may cap L = true) (hnm : K.name A = true) :
    Calls Try.prog 25 #[.agg #[.int .i64 cap, v], .agg #[.int .i64 3, .string A, .string B, dv]] w fun e w' => ∃ v', e = .returned (.tuple #[.agg #[.int .i64 cap, v'], .int .i64 (K.drop L A).2]) ∧ Fl w' v' (if (K.drop L A).2 = 0 then (K.drop L A).1 else L) ∧ Below w.heap.size w w' := by
  obtain ⟨a, sc, rfl, hl, hm, hna, -⟩ := h.open
  obtain ⟨dda, ddc, rfl, -⟩ := id hdv
  obtain ⟨W, hW⟩ : ∃ W, W = (((w.alloc (.cells #[.int .i64 cap, .slice a L.length sc] 24)).alloc (.cells #[.int .i64 3, .string A, .string B, .slice dda z.length ddc] 39)).alloc (.cells #[.int .i64 0, .slice none 0 0] 24)) := ⟨_, rfl⟩
  have B0 : Below w.heap.size w W := by rw [hW]; exact ((below_alloc _ _).alloc (by simp) _).alloc (by simp; omega) _
  have H0 := h.below B0
  have S0 := hdv.below B0
  have c0 : W.cell? ⟨w.heap.size, 0, none⟩ = some (.int .i64 cap) := by rw [hW]; simp [go_sem]
  have c1 : W.cell? ⟨w.heap.size, 1, none⟩ = some (.slice a L.length sc) := by rw [hW]; simp [go_sem]
  have o0 : W.cell? ⟨w.heap.size + 1, 0, none⟩ = some (.int .i64 3) := by rw [hW]; simp [go_sem]
  have o1 : W.cell? ⟨w.heap.size + 1, 1, none⟩ = some (.string A) := by rw [hW]; simp [go_sem]
  have o2 : W.cell? ⟨w.heap.size + 1, 2, none⟩ = some (.string B) := by rw [hW]; simp [go_sem]
  have o3 : W.cell? ⟨w.heap.size + 1, 3, none⟩ = some (.slice dda z.length ddc) := by rw [hW]; simp [go_sem]
  have r0 : W.cell? ⟨w.heap.size + 1 + 1, 0, none⟩ = some (.int .i64 0) := by rw [hW]; simp [go_sem]
  have r1 : W.cell? ⟨w.heap.size + 1 + 1, 1, none⟩ = some (.slice none 0 0) := by rw [hW]; simp [go_sem]
  have n0 : W.frozen? ⟨w.heap.size + 1 + 1, 0, none⟩ = false := by rw [hW]; simp [go_sem]
  have n1 : W.frozen? ⟨w.heap.size + 1 + 1, 1, none⟩ = false := by rw [hW]; simp [go_sem]
  have hZ : w.heap.size + 1 + 1 < W.heap.size := by rw [hW]; simp
  clear h hdv
  have HW := hide hW
  have hup := K.may_up hmay
  clear hW
  go_enter Try.func25, Try.ntmps25
  go_wp2_with fail
  rw [← unhide HW]
  refine (may_b _ _ _ _ H0 hf _ hmay).mono ?_
  rintro e w1 ⟨rfl, B1⟩
  have H1 := H0.below B1
  have S1 := S0.below B1
  have xc0 := cell_keep c0 B1
  have xc1 := cell_keep c1 B1
  have xo0 := cell_keep o0 B1
  have xo1 := cell_keep o1 B1
  have xo2 := cell_keep o2 B1
  have xo3 := cell_keep o3 B1
  have xr0 := cell_keep r0 B1
  have xr1 := cell_keep r1 B1
  have xn0 := frozen_keep n0 B1 (World.block_lt_of_cell? _ _ r0)
  have xn1 := frozen_keep n1 B1 (World.block_lt_of_cell? _ _ r1)
  have BB1 := below_trans' B0 B1
  clear H0 S0 c0 c1 o0 o1 o2 o3 r0 r1 n0 n1
  have hz0 : w.heap.size < w1.heap.size := by have := B1.size; omega
  have hz1 : w.heap.size + 1 < w1.heap.size := by have := B1.size; omega
  have hz2 : w.heap.size + 1 + 1 < w1.heap.size := by have := B1.size; omega
  have hfa : (w1.alloc (.cells #[.func (.func 39) #[] #[], .func (.func 40) #[] #[], .func (.func 41) #[] #[], .func (.func 42) #[] #[]] 66)).cell? ⟨w1.heap.size, 3, none⟩ = some (.func (.func 42) #[] #[]) := by simp
  have Ba := below_alloc w1 (.cells #[.func (.func 39) #[] #[], .func (.func 40) #[] #[], .func (.func 41) #[] #[], .func (.func 42) #[] #[]] 66)
  have Ha := H1.below Ba
  have HNM := hide (isName_b A w1 hA _ hnm)
  go_wp2_with (first
    | (go_at_call 33; refine (unhide HNM).mono ?_; rintro e w' ⟨rfl, h9⟩; have h8 := h9.symm; subst h8; clear h9)
    | (go_at_call 38; refine (own_any _ _ _ _ Ha hf).mono ?_; rintro e w2 ⟨v2, rfl, F2, B2⟩; obtain ⟨xa, xc, rfl, -⟩ := id F2))
  obtain ⟨W2, hW2⟩ : ∃ W2, W2 = w2.alloc (.cells #[.int .i64 cap, .slice xa L.length xc] 24) := ⟨_, rfl⟩
  have B3 : Below w2.heap.size w2 W2 := by rw [hW2]; exact below_alloc _ _
  have BA := below_trans' Ba (below_trans' B2 B3)
  have BW2 := below_trans' BB1 BA
  have FW2 := F2.below B3
  have SW2 := S1.below BA
  have tm0 : W2.cell? ⟨w2.heap.size, 0, none⟩ = some (.int .i64 cap) := by rw [hW2]; simp
  have tm1 : W2.cell? ⟨w2.heap.size, 1, none⟩ = some (.slice xa L.length xc) := by rw [hW2]; simp
  have tf := cell_keep hfa (below_trans' B2 B3)
  have tc0 := cell_keep xc0 BA
  have to0 := cell_keep xo0 BA
  have to1 := cell_keep xo1 BA
  have to2 := cell_keep xo2 BA
  have to3 := cell_keep xo3 BA
  have tr0 := cell_keep xr0 BA
  have tr1 := cell_keep xr1 BA
  have tn0 := frozen_keep xn0 BA (World.block_lt_of_cell? _ _ xr0)
  have tn1 := frozen_keep xn1 BA (World.block_lt_of_cell? _ _ xr1)
  rw [← hW2]
  clear hW2 B1 B2 B3 Ba BA BB1 F2 S1 hfa Ha H1 HNM xc0 xc1 xo0 xo1 xo2 xo3 xr0 xr1 xn0 xn1
  go_region_held3 (fun w' => w'.cell? ⟨w.heap.size + 1, 0, none⟩ = some (.int .i64 3) ∧ w'.cell? ⟨w.heap.size + 1, 1, none⟩ = some (.string A) ∧ w'.cell? ⟨w.heap.size + 1, 2, none⟩ = some (.string B) ∧ w'.cell? ⟨w.heap.size + 1, 3, none⟩ = some (.slice dda z.length ddc) ∧ w'.cell? ⟨w1.heap.size, 3, none⟩ = some (.func (.func 42) #[] #[]) ∧ w'.cell? ⟨w2.heap.size, 0, none⟩ = some (.int .i64 cap) ∧ w'.cell? ⟨w2.heap.size, 1, none⟩ = some (.slice xa L.length xc) ∧ Below W2.heap.size W2 w')
    (first
      | (go_split_ands; exact ⟨to0, to1, to2, to3, tf, tm0, tm1, (Below.refl _ _).drew⟩)
      | (go_split_ands; exact ⟨cell_keep (by assumption) B1, cell_keep (by assumption) B1, cell_keep (by assumption) B1, cell_keep (by assumption) B1, cell_keep (by assumption) B1, cell_keep (by assumption) B1, cell_keep (by assumption) B1, below_trans' (by assumption) B1⟩)
      | (go_split_ands; exact ⟨cell_keep (by assumption) B2, cell_keep (by assumption) B2, cell_keep (by assumption) B2, cell_keep (by assumption) B2, cell_keep (by assumption) B2, cell_keep (by assumption) B2, cell_keep (by assumption) B2, below_trans' (by assumption) B2⟩))
    (first
      | (go_at_call 35; go_split_ands; refine (places_any _ _ _ (FW2.below ?_) hf).mono ?_; assumption; rintro e w5 ⟨v5, rfl, M5, B1⟩; obtain ⟨mb, mn, mD, rfl, -⟩ := id M5)
      | (go_at_call 42; go_split_ands; refine (drop_any _ _ _ _ _ L A B _ (FW2.below ?_) M5 hup hA hf).mono ?_; assumption; rintro e w6 ⟨v6, rfl, F6, B2⟩; obtain ⟨ya, yc, rfl, -⟩ := id F6))
  have BD : Below W2.heap.size W2 w6 := below_trans' (below_trans' ((Below.refl _ _).drew) B1) B2
  have zm0 := cell_keep tm0 BD
  have zm1 := cell_keep tm1 BD
  have zc0 := cell_keep tc0 BD
  have zr0 := cell_keep tr0 BD
  have zr1 := cell_keep tr1 BD
  have zn0 := frozen_keep tn0 BD (World.block_lt_of_cell? _ _ tr0)
  have zn1 := frozen_keep tn1 BD (World.block_lt_of_cell? _ _ tr1)
  have FM := FW2.below BD
  have BE := below_trans' BW2 BD
  clear B1 B2 BD BW2 FW2 SW2 tm0 tm1 tf tc0 to0 to1 to2 to3 tr0 tr1 tn0 tn1 M5
  by_cases hR0 : (K.drop L A).2 = 0
  · have hq : ((K.drop L A).2 != 0) = false := by simp [hR0]
    rw [hR0]
    have HR := hide hR0
    clear hR0
    go_wp2
    exact bodyPost_ret (v := .tuple #[.agg #[.int .i64 cap, .slice ya (K.drop L A).1.length yc], .int .i64 0]) (by simp [results, Try.results25, go_sem, zr0, zr1]) rfl ⟨_, rfl, F6.set2 zr0 zr1 _ _, (BE.setCell (by simp; omega) _).setCell (by simp; omega) _⟩
  · have hq : ((K.drop L A).2 != 0) = true := by simp [hR0]
    have HR := hide hR0
    clear hR0
    go_wp2
    exact bodyPost_ret (v := .tuple #[.agg #[.int .i64 cap, .slice xa L.length xc], .int .i64 (K.drop L A).2]) (by simp [results, Try.results25, go_sem, zr0, zr1]) rfl ⟨_, rfl, FM.set2 zr0 zr1 _ _, (BE.setCell (by simp; omega) _).setCell (by simp; omega) _⟩
end Go.Proofs.Ytnhhmohicjgpgaa
