/-
  The contract of the document's own Do: refused.
-/
import Derived.Test.YtnhhmohicjgpgaaDo
import Derived.Test.YtnhhmohicjgpgaaRWith
namespace Go.Proofs.Ytnhhmohicjgpgaa
open Go.RowKit

set_option maxHeartbeats 4000000 in
theorem rdo_no (kind cap : Int) (v dv : Value) (L : List Pf) (A B : ByteArray) (z : List Int) (w : World) (h : Fl w v L) (hdv : Sl .u8 w dv z) (hA : A.size ≤ maxLen) (hcan : K.can kind cap L A = false) (hf : Fits L) :
    Calls Try.prog 26 #[.agg #[.int .i64 cap, v], .agg #[.int .i64 kind, .string A, .string B, dv]] w fun e w' => ∃ v', e = .returned (.tuple #[.agg #[.int .i64 cap, v'], .int .i64 1]) ∧ Fl w' v' L ∧ Below w.heap.size w w' := by
  obtain ⟨a, sc, rfl, hl, hm, hna, -⟩ := h.open
  obtain ⟨dda, ddc, rfl, -⟩ := id hdv
  obtain ⟨W, hW⟩ : ∃ W, W = (((w.alloc (.cells #[.int .i64 cap, .slice a L.length sc] 24)).alloc (.cells #[.int .i64 kind, .string A, .string B, .slice dda z.length ddc] 39)).alloc (.cells #[.int .i64 0, .slice none 0 0] 24)) := ⟨_, rfl⟩
  have B0 : Below w.heap.size w W := by rw [hW]; exact ((below_alloc _ _).alloc (by simp) _).alloc (by simp; omega) _
  have H0 := h.below B0
  have S0 := hdv.below B0
  have c0 : W.cell? ⟨w.heap.size, 0, none⟩ = some (.int .i64 cap) := by rw [hW]; simp [go_sem]
  have c1 : W.cell? ⟨w.heap.size, 1, none⟩ = some (.slice a L.length sc) := by rw [hW]; simp [go_sem]
  have o0 : W.cell? ⟨w.heap.size + 1, 0, none⟩ = some (.int .i64 kind) := by rw [hW]; simp [go_sem]
  have o1 : W.cell? ⟨w.heap.size + 1, 1, none⟩ = some (.string A) := by rw [hW]; simp [go_sem]
  have o2 : W.cell? ⟨w.heap.size + 1, 2, none⟩ = some (.string B) := by rw [hW]; simp [go_sem]
  have o3 : W.cell? ⟨w.heap.size + 1, 3, none⟩ = some (.slice dda z.length ddc) := by rw [hW]; simp [go_sem]
  have r0 : W.cell? ⟨w.heap.size + 1 + 1, 0, none⟩ = some (.int .i64 0) := by rw [hW]; simp [go_sem]
  have r1 : W.cell? ⟨w.heap.size + 1 + 1, 1, none⟩ = some (.slice none 0 0) := by rw [hW]; simp [go_sem]
  have n0 : W.frozen? ⟨w.heap.size + 1 + 1, 0, none⟩ = false := by rw [hW]; simp [go_sem]
  have n1 : W.frozen? ⟨w.heap.size + 1 + 1, 1, none⟩ = false := by rw [hW]; simp [go_sem]
  have hZ : w.heap.size + 1 + 1 < W.heap.size := by rw [hW]; simp
  clear h hdv
  cases hnm : K.name A with
  | false =>
    cases hmay : K.may cap L with
    | false =>
      have HW := hide hW
      clear hW
      have HNM := hide (fun w => name_b A w hA _ hnm)
      go_enter Try.func26, Try.ntmps26
      go_wp2_with fail
      rw [← unhide HW]
      refine (rmay_b _ _ _ _ H0 hf _ hmay).mono ?_
      rintro e w1 ⟨rfl, B1⟩
      have H1 := H0.below B1
      have S1 := S0.below B1
      have xc0 := cell_keep c0 B1
      have xc1 := cell_keep c1 B1
      have xo0 := cell_keep o0 B1
      have xo1 := cell_keep o1 B1
      have xo2 := cell_keep o2 B1
      have xo3 := cell_keep o3 B1
      have xr0 := cell_keep r0 B1
      have xr1 := cell_keep r1 B1
      have xn0 := frozen_keep n0 B1 (World.block_lt_of_cell? _ _ r0)
      have xn1 := frozen_keep n1 B1 (World.block_lt_of_cell? _ _ r1)
      have BB1 := below_trans' B0 B1
      clear H0 S0 c0 c1 o0 o1 o2 o3 r0 r1 n0 n1
      go_wp2_with (go_at_call 30; refine (unhide HNM _).mono ?_; rintro e w' ⟨rfl, h9⟩; have h8 := h9.symm; subst h8; clear h9)
      exact bodyPost_ret (v := .tuple #[.agg #[.int .i64 cap, .slice a L.length sc], .int .i64 1]) (by simp [results, Try.results26, go_sem, xr0, xr1]) rfl ⟨_, rfl, H1.set2 xr0 xr1 _ _, (BB1.setCell (by simp; omega) _).setCell (by simp; omega) _⟩
    | true =>
      have HW := hide hW
      clear hW
      have HNM := hide (fun w => name_b A w hA _ hnm)
      go_enter Try.func26, Try.ntmps26
      go_wp2_with fail
      rw [← unhide HW]
      refine (rmay_b _ _ _ _ H0 hf _ hmay).mono ?_
      rintro e w1 ⟨rfl, B1⟩
      have H1 := H0.below B1
      have S1 := S0.below B1
      have xc0 := cell_keep c0 B1
      have xc1 := cell_keep c1 B1
      have xo0 := cell_keep o0 B1
      have xo1 := cell_keep o1 B1
      have xo2 := cell_keep o2 B1
      have xo3 := cell_keep o3 B1
      have xr0 := cell_keep r0 B1
      have xr1 := cell_keep r1 B1
      have xn0 := frozen_keep n0 B1 (World.block_lt_of_cell? _ _ r0)
      have xn1 := frozen_keep n1 B1 (World.block_lt_of_cell? _ _ r1)
      have BB1 := below_trans' B0 B1
      clear H0 S0 c0 c1 o0 o1 o2 o3 r0 r1 n0 n1
      go_wp2_with (go_at_call 30; refine (unhide HNM _).mono ?_; rintro e w' ⟨rfl, h9⟩; have h8 := h9.symm; subst h8; clear h9)
      exact bodyPost_ret (v := .tuple #[.agg #[.int .i64 cap, .slice a L.length sc], .int .i64 1]) (by simp [results, Try.results26, go_sem, xr0, xr1]) rfl ⟨_, rfl, H1.set2 xr0 xr1 _ _, (BB1.setCell (by simp; omega) _).setCell (by simp; omega) _⟩
  | true =>
    cases hmay : K.may cap L with
    | false =>
      have HW := hide hW
      clear hW
      have HNM := hide (fun w => name_b A w hA _ hnm)
      go_enter Try.func26, Try.ntmps26
      go_wp2_with fail
      rw [← unhide HW]
      refine (rmay_b _ _ _ _ H0 hf _ hmay).mono ?_
      rintro e w1 ⟨rfl, B1⟩
      have H1 := H0.below B1
      have S1 := S0.below B1
      have xc0 := cell_keep c0 B1
      have xc1 := cell_keep c1 B1
      have xo0 := cell_keep o0 B1
      have xo1 := cell_keep o1 B1
      have xo2 := cell_keep o2 B1
      have xo3 := cell_keep o3 B1
      have xr0 := cell_keep r0 B1
      have xr1 := cell_keep r1 B1
      have xn0 := frozen_keep n0 B1 (World.block_lt_of_cell? _ _ r0)
      have xn1 := frozen_keep n1 B1 (World.block_lt_of_cell? _ _ r1)
      have BB1 := below_trans' B0 B1
      clear H0 S0 c0 c1 o0 o1 o2 o3 r0 r1 n0 n1
      go_wp2_with (go_at_call 30; refine (unhide HNM _).mono ?_; rintro e w' ⟨rfl, h9⟩; have h8 := h9.symm; subst h8; clear h9)
      exact bodyPost_ret (v := .tuple #[.agg #[.int .i64 cap, .slice a L.length sc], .int .i64 1]) (by simp [results, Try.results26, go_sem, xr0, xr1]) rfl ⟨_, rfl, H1.set2 xr0 xr1 _ _, (BB1.setCell (by simp; omega) _).setCell (by simp; omega) _⟩
    | true =>
      by_cases hk0 : kind < 0
      · have hk0' : decide (kind < 0) = true := by simpa using hk0
        have HW := hide hW
        clear hW
        have HNM := hide (fun w => name_b A w hA _ hnm)
        go_enter Try.func26, Try.ntmps26
        go_wp2_with fail
        rw [← unhide HW]
        refine (rmay_b _ _ _ _ H0 hf _ hmay).mono ?_
        rintro e w1 ⟨rfl, B1⟩
        have H1 := H0.below B1
        have S1 := S0.below B1
        have xc0 := cell_keep c0 B1
        have xc1 := cell_keep c1 B1
        have xo0 := cell_keep o0 B1
        have xo1 := cell_keep o1 B1
        have xo2 := cell_keep o2 B1
        have xo3 := cell_keep o3 B1
        have xr0 := cell_keep r0 B1
        have xr1 := cell_keep r1 B1
        have xn0 := frozen_keep n0 B1 (World.block_lt_of_cell? _ _ r0)
        have xn1 := frozen_keep n1 B1 (World.block_lt_of_cell? _ _ r1)
        have BB1 := below_trans' B0 B1
        clear H0 S0 c0 c1 o0 o1 o2 o3 r0 r1 n0 n1
        go_wp2_with (go_at_call 30; refine (unhide HNM _).mono ?_; rintro e w' ⟨rfl, h9⟩; have h8 := h9.symm; subst h8; clear h9)
        exact bodyPost_ret (v := .tuple #[.agg #[.int .i64 cap, .slice a L.length sc], .int .i64 1]) (by simp [results, Try.results26, go_sem, xr0, xr1]) rfl ⟨_, rfl, H1.set2 xr0 xr1 _ _, (BB1.setCell (by simp; omega) _).setCell (by simp; omega) _⟩
      · have hk0' : decide (kind < 0) = false := by simpa using hk0
        have hk4 : 4 ≤ kind := by
          simp [K.can, hmay, hnm] at hcan
          omega
        have hk4' : decide (4 ≤ kind) = true := by simpa using hk4
        have HW := hide hW
        clear hW
        have HNM := hide (fun w => name_b A w hA _ hnm)
        go_enter Try.func26, Try.ntmps26
        go_wp2_with fail
        rw [← unhide HW]
        refine (rmay_b _ _ _ _ H0 hf _ hmay).mono ?_
        rintro e w1 ⟨rfl, B1⟩
        have H1 := H0.below B1
        have S1 := S0.below B1
        have xc0 := cell_keep c0 B1
        have xc1 := cell_keep c1 B1
        have xo0 := cell_keep o0 B1
        have xo1 := cell_keep o1 B1
        have xo2 := cell_keep o2 B1
        have xo3 := cell_keep o3 B1
        have xr0 := cell_keep r0 B1
        have xr1 := cell_keep r1 B1
        have xn0 := frozen_keep n0 B1 (World.block_lt_of_cell? _ _ r0)
        have xn1 := frozen_keep n1 B1 (World.block_lt_of_cell? _ _ r1)
        have BB1 := below_trans' B0 B1
        clear H0 S0 c0 c1 o0 o1 o2 o3 r0 r1 n0 n1
        go_wp2_with (go_at_call 30; refine (unhide HNM _).mono ?_; rintro e w' ⟨rfl, h9⟩; have h8 := h9.symm; subst h8; clear h9)
        exact bodyPost_ret (v := .tuple #[.agg #[.int .i64 cap, .slice a L.length sc], .int .i64 1]) (by simp [results, Try.results26, go_sem, xr0, xr1]) rfl ⟨_, rfl, H1.set2 xr0 xr1 _ _, (BB1.setCell (by simp; omega) _).setCell (by simp; omega) _⟩
end Go.Proofs.Ytnhhmohicjgpgaa
