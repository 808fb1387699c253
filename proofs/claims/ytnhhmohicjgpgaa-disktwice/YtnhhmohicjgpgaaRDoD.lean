/-
  The contract of the document's own Do: dropped.
-/
import Derived.Test.YtnhhmohicjgpgaaRDo
import Derived.Test.YtnhhmohicjgpgaaSet1
namespace Go.Proofs.Ytnhhmohicjgpgaa
open Go.RowKit

set_option maxHeartbeats 4000000 in
theorem rdo_drop (cap : Int) (v dv : Value) (L : List Pf) (A B : ByteArray) (z : List Int) (w : World) (h : Fl w v L) (hdv : Sl .u8 w dv z) (hA : A.size ≤ maxLen) (hBs : B.size ≤ maxLen) (hmay : K.may cap L = true) (hnm : K.name A = true) (hf : Fits L) :
    Calls Try.prog 26 #[.agg #[.int .i64 cap, v], .agg #[.int .i64 3, .string A, .string B, dv]] w fun e w' => ∃ v', e = .returned (.tuple #[.agg #[.int .i64 cap, v'], .int .i64 (K.drop L A).2]) ∧ Fl w' v' (if (K.drop L A).2 = 0 then (K.drop L A).1 else L) ∧ Below w.heap.size w w' := by
  obtain ⟨a, sc, rfl, hl, hm, hna, -⟩ := h.open
  obtain ⟨dda, ddc, rfl, -⟩ := id hdv
  obtain ⟨W, hW⟩ : ∃ W, W = (((w.alloc (.cells #[.int .i64 cap, .slice a L.length sc] 24)).alloc (.cells #[.int .i64 3, .string A, .string B, .slice dda z.length ddc] 39)).alloc (.cells #[.int .i64 0, .slice none 0 0] 24)) := ⟨_, rfl⟩
  have B0 : Below w.heap.size w W := by rw [hW]; exact ((below_alloc _ _).alloc (by simp) _).alloc (by simp; omega) _
  have H0 := h.below B0
  have S0 := hdv.below B0
  have c0 : W.cell? ⟨w.heap.size, 0, none⟩ = some (.int .i64 cap) := by rw [hW]; simp [go_sem]
  have c1 : W.cell? ⟨w.heap.size, 1, none⟩ = some (.slice a L.length sc) := by rw [hW]; simp [go_sem]
  have o0 : W.cell? ⟨w.heap.size + 1, 0, none⟩ = some (.int .i64 3) := by rw [hW]; simp [go_sem]
  have o1 : W.cell? ⟨w.heap.size + 1, 1, none⟩ = some (.string A) := by rw [hW]; simp [go_sem]
  have o2 : W.cell? ⟨w.heap.size + 1, 2, none⟩ = some (.string B) := by rw [hW]; simp [go_sem]
  have o3 : W.cell? ⟨w.heap.size + 1, 3, none⟩ = some (.slice dda z.length ddc) := by rw [hW]; simp [go_sem]
  have r0 : W.cell? ⟨w.heap.size + 1 + 1, 0, none⟩ = some (.int .i64 0) := by rw [hW]; simp [go_sem]
  have r1 : W.cell? ⟨w.heap.size + 1 + 1, 1, none⟩ = some (.slice none 0 0) := by rw [hW]; simp [go_sem]
  have n0 : W.frozen? ⟨w.heap.size + 1 + 1, 0, none⟩ = false := by rw [hW]; simp [go_sem]
  have n1 : W.frozen? ⟨w.heap.size + 1 + 1, 1, none⟩ = false := by rw [hW]; simp [go_sem]
  have hZ : w.heap.size + 1 + 1 < W.heap.size := by rw [hW]; simp
  clear h hdv
  cases hfi : K.find L A with
  | none =>
    have hr : K.drop L A = ([], 2) := by simp [K.drop, hfi]
    rw [hr]
    have HAT := hide (show (if K.may cap L = true then K.at L A else -1) = -1 by simp [K.at, hfi])
    clear hr
    have HW := hide hW
    clear hW
    have HNM := hide (fun w => name_b A w hA _ hnm)
    go_enter Try.func26, Try.ntmps26
    go_wp2_with fail
    rw [← unhide HW]
    refine (rmay_b _ _ _ _ H0 hf _ hmay).mono ?_
    rintro e w1 ⟨rfl, B1⟩
    have H1 := H0.below B1
    have S1 := S0.below B1
    have xc0 := cell_keep c0 B1
    have xc1 := cell_keep c1 B1
    have xo0 := cell_keep o0 B1
    have xo1 := cell_keep o1 B1
    have xo2 := cell_keep o2 B1
    have xo3 := cell_keep o3 B1
    have xr0 := cell_keep r0 B1
    have xr1 := cell_keep r1 B1
    have xn0 := frozen_keep n0 B1 (World.block_lt_of_cell? _ _ r0)
    have xn1 := frozen_keep n1 B1 (World.block_lt_of_cell? _ _ r1)
    have BB1 := below_trans' B0 B1
    clear H0 S0 c0 c1 o0 o1 o2 o3 r0 r1 n0 n1
    have HNB := hide (fun w => name_b B w hBs _ (rfl : K.name B = K.name B))
    go_wp2_with (first
      | (go_at_call_of 30 (Value.string A); refine (unhide HNM _).mono ?_; rintro e w' ⟨rfl, h9⟩; have h8 := h9.symm; subst h8; clear h9)
      | (go_at_call 22; refine (rfind_b _ _ _ _ _ H1 hf _ (unhide HAT)).mono ?_; rintro e w2 ⟨rfl, B2⟩; have H2 := H1.below B2; have S2 := S1.below B2; have BB2 := below_trans' BB1 B2; have yc0 := cell_keep xc0 B2; have yc1 := cell_keep xc1 B2; have yo0 := cell_keep xo0 B2; have yo1 := cell_keep xo1 B2; have yo2 := cell_keep xo2 B2; have yo3 := cell_keep xo3 B2; have yr0 := cell_keep xr0 B2; have yr1 := cell_keep xr1 B2; have yn0 := frozen_keep xn0 B2 (World.block_lt_of_cell? _ _ xr0); have yn1 := frozen_keep xn1 B2 (World.block_lt_of_cell? _ _ xr1); clear xc0 xc1 xo0 xo1 xo2 xo3 xr0 xr1 xn0 xn1)
      | (go_at_call_of 30 (Value.string B); refine (unhide HNB _).mono ?_; rintro e w' ⟨rfl, h9⟩; have h8 := h9.symm; subst h8; clear h9))
    exact bodyPost_ret (v := .tuple #[.agg #[.int .i64 cap, .slice a L.length sc], .int .i64 2]) (by simp [results, Try.results26, go_sem, yr0, yr1]) rfl ⟨_, rfl, H2.set2 yr0 yr1 _ _, (BB2.setCell (by simp; omega) _).setCell (by simp; omega) _⟩
  | some i =>
    obtain ⟨f, hfk, -⟩ := K.find_some hfi
    have hr : K.drop L A = (K.without L A, 0) := by simp [K.drop, hfi]
    have hil := K.find_lt hfi
    have ii : (i : Int) < (L.length : Int) := by omega
    rw [hr]
    have HAT := hide (show (if K.may cap L = true then K.at L A else -1) = (i : Int) by simp [K.at, hfi, hmay])
    have HFK := hide hfk
    clear hr hfk hfi
    have HW := hide hW
    clear hW
    have HNM := hide (fun w => name_b A w hA _ hnm)
    go_enter Try.func26, Try.ntmps26
    go_wp2_with fail
    rw [← unhide HW]
    refine (rmay_b _ _ _ _ H0 hf _ hmay).mono ?_
    rintro e w1 ⟨rfl, B1⟩
    have H1 := H0.below B1
    have S1 := S0.below B1
    have xc0 := cell_keep c0 B1
    have xc1 := cell_keep c1 B1
    have xo0 := cell_keep o0 B1
    have xo1 := cell_keep o1 B1
    have xo2 := cell_keep o2 B1
    have xo3 := cell_keep o3 B1
    have xr0 := cell_keep r0 B1
    have xr1 := cell_keep r1 B1
    have xn0 := frozen_keep n0 B1 (World.block_lt_of_cell? _ _ r0)
    have xn1 := frozen_keep n1 B1 (World.block_lt_of_cell? _ _ r1)
    have BB1 := below_trans' B0 B1
    clear H0 S0 c0 c1 o0 o1 o2 o3 r0 r1 n0 n1
    have HNB := hide (fun w => name_b B w hBs _ (rfl : K.name B = K.name B))
    go_wp2_with (first
      | (go_at_call_of 30 (Value.string A); refine (unhide HNM _).mono ?_; rintro e w' ⟨rfl, h9⟩; have h8 := h9.symm; subst h8; clear h9)
      | (go_at_call 22; refine (rfind_b _ _ _ _ _ H1 hf _ (unhide HAT)).mono ?_; rintro e w2 ⟨rfl, B2⟩; have H2 := H1.below B2; have S2 := S1.below B2; have BB2 := below_trans' BB1 B2; have yc0 := cell_keep xc0 B2; have yc1 := cell_keep xc1 B2; have yo0 := cell_keep xo0 B2; have yo1 := cell_keep xo1 B2; have yo2 := cell_keep xo2 B2; have yo3 := cell_keep xo3 B2; have yr0 := cell_keep xr0 B2; have yr1 := cell_keep xr1 B2; have yn0 := frozen_keep xn0 B2 (World.block_lt_of_cell? _ _ xr0); have yn1 := frozen_keep xn1 B2 (World.block_lt_of_cell? _ _ xr1); clear xc0 xc1 xo0 xo1 xo2 xo3 xr0 xr1 xn0 xn1; obtain ⟨a', sc', hv', -, -, -, ho⟩ := H2.open; simp only [Value.slice.injEq, true_and] at hv'; obtain ⟨rfl, rfl⟩ := hv'; obtain ⟨b, off, rfl, hb, hc⟩ := ho (by omega); obtain ⟨fa, fc, d0, d1, d2, d3⟩ := hc i f (unhide HFK); clear hc ho; have Ba := below_alloc w2 (.cells #[.string f.nm, .slice fa f.da.length fc, .bool f.su] 48); have Ha := H2.below Ba; have hz0 : w.heap.size < w2.heap.size := World.block_lt_of_cell? _ _ yc0; have hz1 : w.heap.size + 1 < w2.heap.size := World.block_lt_of_cell? _ _ yo0; have hz2 : w.heap.size + 1 + 1 < w2.heap.size := World.block_lt_of_cell? _ _ yr0; have hf0 : (w2.alloc (.cells #[.string f.nm, .slice fa f.da.length fc, .bool f.su] 48)).cell? ⟨w2.heap.size, 0, none⟩ = some (.string f.nm) := (by simp); have hf1 : (w2.alloc (.cells #[.string f.nm, .slice fa f.da.length fc, .bool f.su] 48)).cell? ⟨w2.heap.size, 1, none⟩ = some (.slice fa f.da.length fc) := (by simp); have hf2 : (w2.alloc (.cells #[.string f.nm, .slice fa f.da.length fc, .bool f.su] 48)).cell? ⟨w2.heap.size, 2, none⟩ = some (.bool f.su) := (by simp); have hf3 : ∀ k, (w2.alloc (.cells #[.string f.nm, .slice fa f.da.length fc, .bool f.su] 48)).frozen? ⟨w2.heap.size, k, none⟩ = false := (fun k => by simp [go_sem]))
      | (go_at_call_of 30 (Value.string B); refine (unhide HNB _).mono ?_; rintro e w' ⟨rfl, h9⟩; have h8 := h9.symm; subst h8; clear h9)
      | (go_at_call_of 44 (Value.string A); refine (rwithout_o _ _ _ _ Ha hf).mono ?_; rintro e w3 ⟨v3, rfl, O3, B3⟩; have BA3 := below_trans' Ba B3; have F3 := O3.fl (fun _ _ h => h.below B3); obtain ⟨ga, gc, rfl, -⟩ := id F3; have BB3 := below_trans' BB2 BA3; have g0 := cell_keep hf0 B3; have g1 := cell_keep hf1 B3; have g2 := cell_keep hf2 B3; have g3 : ∀ k, w3.frozen? ⟨w2.heap.size, k, none⟩ = false := (fun k => frozen_keep (hf3 k) B3 (by simp)); have D3 := d3.below BA3; have zc0 := cell_keep yc0 BA3; have zc1 := cell_keep yc1 BA3; have zo0 := cell_keep yo0 BA3; have zo1 := cell_keep yo1 BA3; have zo2 := cell_keep yo2 BA3; have zo3 := cell_keep yo3 BA3; have zr0 := cell_keep yr0 BA3; have zr1 := cell_keep yr1 BA3; have zn0 := frozen_keep yn0 BA3 (World.block_lt_of_cell? _ _ yr0); have zn1 := frozen_keep yn1 BA3 (World.block_lt_of_cell? _ _ yr1); clear yc0 yc1 yo0 yo1 yo2 yo3 yr0 yr1 yn0 yn1 hf0 hf1 hf2 hf3 d0 d1 d2 d3))
    exact bodyPost_ret (v := .tuple #[.agg #[.int .i64 cap, .slice ga (K.without L A).length gc], .int .i64 0]) (by simp [results, Try.results26, go_sem, zr0, zr1]) rfl ⟨_, rfl, F3.set2 zr0 zr1 _ _, (BB3.setCell (by simp; omega) _).setCell (by simp; omega) _⟩
end Go.Proofs.Ytnhhmohicjgpgaa
