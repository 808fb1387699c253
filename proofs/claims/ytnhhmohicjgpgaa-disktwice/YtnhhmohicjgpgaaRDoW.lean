/-
  The contract of the document's own Do: written.
-/
import Derived.Test.YtnhhmohicjgpgaaRDo
import Derived.Test.YtnhhmohicjgpgaaSet1
import Derived.Test.YtnhhmohicjgpgaaWrite3
namespace Go.Proofs.Ytnhhmohicjgpgaa
open Go.RowKit

set_option maxHeartbeats 4000000 in
theorem rdo_write (cap : Int) (v dv : Value) (L : List Pf) (A B : ByteArray) (z : List Int) (w : World) (h : Fl w v L) (hdv : Sl .u8 w dv z) (hA : A.size ≤ maxLen) (hz : z.length ≤ 1000) (hmay : K.may cap L = true) (hnm : K.name A = true) (hf : Fits L) :
    Calls Try.prog 26 #[.agg #[.int .i64 cap, v], .agg #[.int .i64 0, .string A, .string B, dv]] w fun e w' => ∃ v', e = .returned (.tuple #[.agg #[.int .i64 cap, v'], .int .i64 (K.write cap L A z).2]) ∧ Fl w' v' (if (K.write cap L A z).2 = 0 then (K.write cap L A z).1 else L) ∧ Below w.heap.size w w' := by
  obtain ⟨a, sc, rfl, hl, hm, hna, -⟩ := h.open
  obtain ⟨dda, ddc, rfl, -⟩ := id hdv
  obtain ⟨W, hW⟩ : ∃ W, W = (((w.alloc (.cells #[.int .i64 cap, .slice a L.length sc] 24)).alloc (.cells #[.int .i64 0, .string A, .string B, .slice dda z.length ddc] 39)).alloc (.cells #[.int .i64 0, .slice none 0 0] 24)) := ⟨_, rfl⟩
  have B0 : Below w.heap.size w W := by rw [hW]; exact ((below_alloc _ _).alloc (by simp) _).alloc (by simp; omega) _
  have H0 := h.below B0
  have S0 := hdv.below B0
  have c0 : W.cell? ⟨w.heap.size, 0, none⟩ = some (.int .i64 cap) := by rw [hW]; simp [go_sem]
  have c1 : W.cell? ⟨w.heap.size, 1, none⟩ = some (.slice a L.length sc) := by rw [hW]; simp [go_sem]
  have o0 : W.cell? ⟨w.heap.size + 1, 0, none⟩ = some (.int .i64 0) := by rw [hW]; simp [go_sem]
  have o1 : W.cell? ⟨w.heap.size + 1, 1, none⟩ = some (.string A) := by rw [hW]; simp [go_sem]
  have o2 : W.cell? ⟨w.heap.size + 1, 2, none⟩ = some (.string B) := by rw [hW]; simp [go_sem]
  have o3 : W.cell? ⟨w.heap.size + 1, 3, none⟩ = some (.slice dda z.length ddc) := by rw [hW]; simp [go_sem]
  have r0 : W.cell? ⟨w.heap.size + 1 + 1, 0, none⟩ = some (.int .i64 0) := by rw [hW]; simp [go_sem]
  have r1 : W.cell? ⟨w.heap.size + 1 + 1, 1, none⟩ = some (.slice none 0 0) := by rw [hW]; simp [go_sem]
  have n0 : W.frozen? ⟨w.heap.size + 1 + 1, 0, none⟩ = false := by rw [hW]; simp [go_sem]
  have n1 : W.frozen? ⟨w.heap.size + 1 + 1, 1, none⟩ = false := by rw [hW]; simp [go_sem]
  have hZ : w.heap.size + 1 + 1 < W.heap.size := by rw [hW]; simp
  clear h hdv
  have hsum := hf.sum
  cases hfi : K.find L A with
  | some i =>
    have hr : K.write cap L A z = ([], 3) := by simp [K.write, hfi]
    rw [hr]
    have HAT := hide (show (if K.may cap L = true then K.at L A else -1) = (i : Int) by simp [K.at, hfi, hmay])
    clear hr
    have HW := hide hW
    clear hW
    have HNM := hide (fun w => name_b A w hA _ hnm)
    go_enter Try.func26, Try.ntmps26
    go_wp2_with fail
    rw [← unhide HW]
    refine (rmay_b _ _ _ _ H0 hf _ hmay).mono ?_
    rintro e w1 ⟨rfl, B1⟩
    have H1 := H0.below B1
    have S1 := S0.below B1
    have xc0 := cell_keep c0 B1
    have xc1 := cell_keep c1 B1
    have xo0 := cell_keep o0 B1
    have xo1 := cell_keep o1 B1
    have xo2 := cell_keep o2 B1
    have xo3 := cell_keep o3 B1
    have xr0 := cell_keep r0 B1
    have xr1 := cell_keep r1 B1
    have xn0 := frozen_keep n0 B1 (World.block_lt_of_cell? _ _ r0)
    have xn1 := frozen_keep n1 B1 (World.block_lt_of_cell? _ _ r1)
    have BB1 := below_trans' B0 B1
    clear H0 S0 c0 c1 o0 o1 o2 o3 r0 r1 n0 n1
    go_wp2_with (first
      | (go_at_call_of 30 (Value.string A); refine (unhide HNM _).mono ?_; rintro e w' ⟨rfl, h9⟩; have h8 := h9.symm; subst h8; clear h9)
      | (go_at_call 22; refine (rfind_b _ _ _ _ _ H1 hf _ (unhide HAT)).mono ?_; rintro e w2 ⟨rfl, B2⟩; have H2 := H1.below B2; have S2 := S1.below B2; have BB2 := below_trans' BB1 B2; have yc0 := cell_keep xc0 B2; have yc1 := cell_keep xc1 B2; have yo0 := cell_keep xo0 B2; have yo1 := cell_keep xo1 B2; have yo2 := cell_keep xo2 B2; have yo3 := cell_keep xo3 B2; have yr0 := cell_keep xr0 B2; have yr1 := cell_keep xr1 B2; have yn0 := frozen_keep xn0 B2 (World.block_lt_of_cell? _ _ xr0); have yn1 := frozen_keep xn1 B2 (World.block_lt_of_cell? _ _ xr1); clear xc0 xc1 xo0 xo1 xo2 xo3 xr0 xr1 xn0 xn1))
    exact bodyPost_ret (v := .tuple #[.agg #[.int .i64 cap, .slice a L.length sc], .int .i64 3]) (by simp [results, Try.results26, go_sem, yr0, yr1]) rfl ⟨_, rfl, H2.set2 yr0 yr1 _ _, (BB2.setCell (by simp; omega) _).setCell (by simp; omega) _⟩
  | none =>
    have hwrap : IntKind.i64.wrap ((K.sum L : Int) + (z.length : Int)) = (K.sum L : Int) + (z.length : Int) := wrap_i64 _ (by omega) (by omega)
    by_cases h64 : L.length = 64
    · have h64' : ((L.length : Int) == 64) = true := by rw [h64]; rfl
      have hr : K.write cap L A z = ([], 4) := by simp [K.write, hfi, h64]
      rw [hr]
      clear hr h64
      have HAT := hide (show (if K.may cap L = true then K.at L A else -1) = -1 by simp [K.at, hfi])
      have HW := hide hW
      clear hW
      have HNM := hide (fun w => name_b A w hA _ hnm)
      go_enter Try.func26, Try.ntmps26
      go_wp2_with fail
      rw [← unhide HW]
      refine (rmay_b _ _ _ _ H0 hf _ hmay).mono ?_
      rintro e w1 ⟨rfl, B1⟩
      have H1 := H0.below B1
      have S1 := S0.below B1
      have xc0 := cell_keep c0 B1
      have xc1 := cell_keep c1 B1
      have xo0 := cell_keep o0 B1
      have xo1 := cell_keep o1 B1
      have xo2 := cell_keep o2 B1
      have xo3 := cell_keep o3 B1
      have xr0 := cell_keep r0 B1
      have xr1 := cell_keep r1 B1
      have xn0 := frozen_keep n0 B1 (World.block_lt_of_cell? _ _ r0)
      have xn1 := frozen_keep n1 B1 (World.block_lt_of_cell? _ _ r1)
      have BB1 := below_trans' B0 B1
      clear H0 S0 c0 c1 o0 o1 o2 o3 r0 r1 n0 n1
      go_wp2_with (first
        | (go_at_call_of 30 (Value.string A); refine (unhide HNM _).mono ?_; rintro e w' ⟨rfl, h9⟩; have h8 := h9.symm; subst h8; clear h9)
        | (go_at_call 22; refine (rfind_b _ _ _ _ _ H1 hf _ (unhide HAT)).mono ?_; rintro e w2 ⟨rfl, B2⟩; have H2 := H1.below B2; have S2 := S1.below B2; have BB2 := below_trans' BB1 B2; have yc0 := cell_keep xc0 B2; have yc1 := cell_keep xc1 B2; have yo0 := cell_keep xo0 B2; have yo1 := cell_keep xo1 B2; have yo2 := cell_keep xo2 B2; have yo3 := cell_keep xo3 B2; have yr0 := cell_keep xr0 B2; have yr1 := cell_keep xr1 B2; have yn0 := frozen_keep xn0 B2 (World.block_lt_of_cell? _ _ xr0); have yn1 := frozen_keep xn1 B2 (World.block_lt_of_cell? _ _ xr1); clear xc0 xc1 xo0 xo1 xo2 xo3 xr0 xr1 xn0 xn1))
      have e0 := cells_below yc0
      have e1 := cells_below yc1
      have e3 := cells_below yo3
      refine region_below (by kernel_rfl) (by kernel_rfl) ?_
      iterate 16
        (first
          | go_big_quiet_skip
          | (go_big_quiet_want; go_big_quiet_op
             first
               | go_big_quiet_on
               | (apply Exists.intro
                  refine ⟨fun w' hw' => ?_, ?_⟩
                  · first
                   | exact rfl
                   | (rw [e0 w' hw']; exact ⟨rfl, rfl⟩)
                   | (rw [e1 w' hw']; exact ⟨rfl, rfl⟩)
                   | (rw [e3 w' hw']; exact ⟨rfl, rfl⟩)
                   | (go_at_call 32; exact (used_any _ _ _ (H2.below hw') (by omega)).mono fun e w'' ⟨h1, h2⟩ => ⟨h1, by rw [h2]; exact hw'⟩)
                  go_big_quiet_on)))
      refine wpQuiet_nil ?_
      intro w9 hb9
      have H9 := H2.below hb9
      have qc0 := cell_keep yc0 hb9
      have qc1 := cell_keep yc1 hb9
      have qr0 := cell_keep yr0 hb9
      have qr1 := cell_keep yr1 hb9
      have qn0 := frozen_keep yn0 hb9 (World.block_lt_of_cell? _ _ yr0)
      have qn1 := frozen_keep yn1 hb9 (World.block_lt_of_cell? _ _ yr1)
      have BB9 := below_trans' BB2 hb9
      clear hb9 e0 e1 e3
      go_wp2
      exact bodyPost_ret (v := .tuple #[.agg #[.int .i64 cap, .slice a L.length sc], .int .i64 4]) (by simp [results, Try.results26, go_sem, qr0, qr1]) rfl ⟨_, rfl, H9.set2 qr0 qr1 _ _, (BB9.setCell (by simp; omega) _).setCell (by simp; omega) _⟩
    · have h64' : ((L.length : Int) == 64) = false := by simp; omega
      by_cases hroom : cap < (K.sum L : Int) + z.length
      · have hr : K.write cap L A z = ([], 4) := by simp [K.write, hfi, hroom]
        rw [hr]
        have hroom' : decide (cap < (K.sum L : Int) + z.length) = true := by simpa using hroom
        clear hr h64 hroom
        have HAT := hide (show (if K.may cap L = true then K.at L A else -1) = -1 by simp [K.at, hfi])
        have HW := hide hW
        clear hW
        have HNM := hide (fun w => name_b A w hA _ hnm)
        go_enter Try.func26, Try.ntmps26
        go_wp2_with fail
        rw [← unhide HW]
        refine (rmay_b _ _ _ _ H0 hf _ hmay).mono ?_
        rintro e w1 ⟨rfl, B1⟩
        have H1 := H0.below B1
        have S1 := S0.below B1
        have xc0 := cell_keep c0 B1
        have xc1 := cell_keep c1 B1
        have xo0 := cell_keep o0 B1
        have xo1 := cell_keep o1 B1
        have xo2 := cell_keep o2 B1
        have xo3 := cell_keep o3 B1
        have xr0 := cell_keep r0 B1
        have xr1 := cell_keep r1 B1
        have xn0 := frozen_keep n0 B1 (World.block_lt_of_cell? _ _ r0)
        have xn1 := frozen_keep n1 B1 (World.block_lt_of_cell? _ _ r1)
        have BB1 := below_trans' B0 B1
        clear H0 S0 c0 c1 o0 o1 o2 o3 r0 r1 n0 n1
        go_wp2_with (first
          | (go_at_call_of 30 (Value.string A); refine (unhide HNM _).mono ?_; rintro e w' ⟨rfl, h9⟩; have h8 := h9.symm; subst h8; clear h9)
          | (go_at_call 22; refine (rfind_b _ _ _ _ _ H1 hf _ (unhide HAT)).mono ?_; rintro e w2 ⟨rfl, B2⟩; have H2 := H1.below B2; have S2 := S1.below B2; have BB2 := below_trans' BB1 B2; have yc0 := cell_keep xc0 B2; have yc1 := cell_keep xc1 B2; have yo0 := cell_keep xo0 B2; have yo1 := cell_keep xo1 B2; have yo2 := cell_keep xo2 B2; have yo3 := cell_keep xo3 B2; have yr0 := cell_keep xr0 B2; have yr1 := cell_keep xr1 B2; have yn0 := frozen_keep xn0 B2 (World.block_lt_of_cell? _ _ xr0); have yn1 := frozen_keep xn1 B2 (World.block_lt_of_cell? _ _ xr1); clear xc0 xc1 xo0 xo1 xo2 xo3 xr0 xr1 xn0 xn1))
        have e0 := cells_below yc0
        have e1 := cells_below yc1
        have e3 := cells_below yo3
        refine region_below (by kernel_rfl) (by kernel_rfl) ?_
        iterate 16
          (first
            | go_big_quiet_skip
            | (go_big_quiet_want; go_big_quiet_op
               first
                 | go_big_quiet_on
                 | (apply Exists.intro
                    refine ⟨fun w' hw' => ?_, ?_⟩
                    · first
                     | exact rfl
                     | (rw [e0 w' hw']; exact ⟨rfl, rfl⟩)
                     | (rw [e1 w' hw']; exact ⟨rfl, rfl⟩)
                     | (rw [e3 w' hw']; exact ⟨rfl, rfl⟩)
                     | (go_at_call 32; exact (used_any _ _ _ (H2.below hw') (by omega)).mono fun e w'' ⟨h1, h2⟩ => ⟨h1, by rw [h2]; exact hw'⟩)
                    go_big_quiet_on)))
        refine wpQuiet_nil ?_
        intro w9 hb9
        have H9 := H2.below hb9
        have qc0 := cell_keep yc0 hb9
        have qc1 := cell_keep yc1 hb9
        have qr0 := cell_keep yr0 hb9
        have qr1 := cell_keep yr1 hb9
        have qn0 := frozen_keep yn0 hb9 (World.block_lt_of_cell? _ _ yr0)
        have qn1 := frozen_keep yn1 hb9 (World.block_lt_of_cell? _ _ yr1)
        have BB9 := below_trans' BB2 hb9
        clear hb9 e0 e1 e3
        go_wp2
        exact bodyPost_ret (v := .tuple #[.agg #[.int .i64 cap, .slice a L.length sc], .int .i64 4]) (by simp [results, Try.results26, go_sem, qr0, qr1]) rfl ⟨_, rfl, H9.set2 qr0 qr1 _ _, (BB9.setCell (by simp; omega) _).setCell (by simp; omega) _⟩
      · have hr : K.write cap L A z = (K.with L ⟨A, z, false⟩, 0) := by simp [K.write, hfi, h64, hroom]
        rw [hr]
        have hroom' : decide (cap < (K.sum L : Int) + z.length) = false := by simpa using hroom
        clear hr h64 hroom
        have HAT := hide (show (if K.may cap L = true then K.at L A else -1) = -1 by simp [K.at, hfi])
        have HW := hide hW
        clear hW
        have HNM := hide (fun w => name_b A w hA _ hnm)
        go_enter Try.func26, Try.ntmps26
        go_wp2_with fail
        rw [← unhide HW]
        refine (rmay_b _ _ _ _ H0 hf _ hmay).mono ?_
        rintro e w1 ⟨rfl, B1⟩
        have H1 := H0.below B1
        have S1 := S0.below B1
        have xc0 := cell_keep c0 B1
        have xc1 := cell_keep c1 B1
        have xo0 := cell_keep o0 B1
        have xo1 := cell_keep o1 B1
        have xo2 := cell_keep o2 B1
        have xo3 := cell_keep o3 B1
        have xr0 := cell_keep r0 B1
        have xr1 := cell_keep r1 B1
        have xn0 := frozen_keep n0 B1 (World.block_lt_of_cell? _ _ r0)
        have xn1 := frozen_keep n1 B1 (World.block_lt_of_cell? _ _ r1)
        have BB1 := below_trans' B0 B1
        clear H0 S0 c0 c1 o0 o1 o2 o3 r0 r1 n0 n1
        go_wp2_with (first
          | (go_at_call_of 30 (Value.string A); refine (unhide HNM _).mono ?_; rintro e w' ⟨rfl, h9⟩; have h8 := h9.symm; subst h8; clear h9)
          | (go_at_call 22; refine (rfind_b _ _ _ _ _ H1 hf _ (unhide HAT)).mono ?_; rintro e w2 ⟨rfl, B2⟩; have H2 := H1.below B2; have S2 := S1.below B2; have BB2 := below_trans' BB1 B2; have yc0 := cell_keep xc0 B2; have yc1 := cell_keep xc1 B2; have yo0 := cell_keep xo0 B2; have yo1 := cell_keep xo1 B2; have yo2 := cell_keep xo2 B2; have yo3 := cell_keep xo3 B2; have yr0 := cell_keep xr0 B2; have yr1 := cell_keep xr1 B2; have yn0 := frozen_keep xn0 B2 (World.block_lt_of_cell? _ _ xr0); have yn1 := frozen_keep xn1 B2 (World.block_lt_of_cell? _ _ xr1); clear xc0 xc1 xo0 xo1 xo2 xo3 xr0 xr1 xn0 xn1))
        have e0 := cells_below yc0
        have e1 := cells_below yc1
        have e3 := cells_below yo3
        refine region_below (by kernel_rfl) (by kernel_rfl) ?_
        iterate 16
          (first
            | go_big_quiet_skip
            | (go_big_quiet_want; go_big_quiet_op
               first
                 | go_big_quiet_on
                 | (apply Exists.intro
                    refine ⟨fun w' hw' => ?_, ?_⟩
                    · first
                     | exact rfl
                     | (rw [e0 w' hw']; exact ⟨rfl, rfl⟩)
                     | (rw [e1 w' hw']; exact ⟨rfl, rfl⟩)
                     | (rw [e3 w' hw']; exact ⟨rfl, rfl⟩)
                     | (go_at_call 32; exact (used_any _ _ _ (H2.below hw') (by omega)).mono fun e w'' ⟨h1, h2⟩ => ⟨h1, by rw [h2]; exact hw'⟩)
                    go_big_quiet_on)))
        refine wpQuiet_nil ?_
        intro w9 hb9
        have H9 := H2.below hb9
        have S9 := S2.below hb9
        have qc0 := cell_keep yc0 hb9
        have qc1 := cell_keep yc1 hb9
        have qo1 := cell_keep yo1 hb9
        have qo3 := cell_keep yo3 hb9
        have qr0 := cell_keep yr0 hb9
        have qr1 := cell_keep yr1 hb9
        have qn0 := frozen_keep yn0 hb9 (World.block_lt_of_cell? _ _ yr0)
        have qn1 := frozen_keep yn1 hb9 (World.block_lt_of_cell? _ _ yr1)
        have BB9 := below_trans' BB2 hb9
        clear hb9 e0 e1 e3 yc0 yc1 yo0 yo1 yo2 yo3 yr0 yr1 yn0 yn1 H1 H2 S1 S2 BB1 BB2 B0 B1 B2
        go_wp2
        go_region_held3 (fun w' => w'.cell? ⟨w.heap.size, 0, none⟩ = some (.int .i64 cap) ∧ w'.cell? ⟨w.heap.size, 1, none⟩ = some (.slice a L.length sc) ∧ w'.cell? ⟨w.heap.size + 1, 1, none⟩ = some (.string A) ∧ w'.cell? ⟨w.heap.size + 1, 3, none⟩ = some (.slice dda z.length ddc) ∧ Fl w' (.slice a L.length sc) L ∧ Sl .u8 w' (.slice dda z.length ddc) z ∧ Below w.heap.size w w')
          (first
            | (go_split_ands; exact ⟨qc0, qc1, qo1, qo3, H9, S9, BB9.drew⟩)
            | (go_split_ands; exact ⟨cell_keep (by assumption) B1, cell_keep (by assumption) B1, cell_keep (by assumption) B1, cell_keep (by assumption) B1, Fl.below (by assumption) B1, Sl.below (by assumption) B1, below_trans' (by assumption) B1⟩)
            | (go_split_ands; exact ⟨cell_set2 (by assumption) (by intro e; simp only [Addr.mk.injEq] at e; omega) (by intro e; simp only [Addr.mk.injEq] at e; omega), cell_set2 (by assumption) (by intro e; simp only [Addr.mk.injEq] at e; omega) (by intro e; simp only [Addr.mk.injEq] at e; omega), cell_set2 (by assumption) (by intro e; simp only [Addr.mk.injEq] at e; omega) (by intro e; simp only [Addr.mk.injEq] at e; omega), cell_set2 (by assumption) (by intro e; simp only [Addr.mk.injEq] at e; omega) (by intro e; simp only [Addr.mk.injEq] at e; omega), Fl.set2 (by assumption) t0 t1 _ _, Sl.set2 (by assumption) t0 t1 _ _, (Below.setCell (by assumption) (by simp; omega) _).setCell (by simp; omega) _⟩))
          (first
            | (go_at_call 43; go_split_ands; refine (rwith_any _ _ _ ⟨A, z, false⟩ _ ?_ ?_ hf).mono ?_; assumption; assumption; rintro e w5 ⟨v5, rfl, F5, B1⟩; obtain ⟨ha, hc, rfl, -⟩ := id F5; have t0 := cell_keep (w := w9.drew) qr0 B1; have t1 := cell_keep (w := w9.drew) qr1 B1; have t2 := frozen_keep (w := w9.drew) qn0 B1 (World.block_lt_of_cell? _ _ qr0); have t3 := frozen_keep (w := w9.drew) qn1 B1 (World.block_lt_of_cell? _ _ qr1)))
        have BB4 : Below w.heap.size w w5 := below_trans' BB9.drew B1
        go_wp2
        exact bodyPost_ret (v := .tuple #[.agg #[.int .i64 cap, .slice ha (K.with L ⟨A, z, false⟩).length hc], .int .i64 0]) (by simp [results, Try.results26, go_sem, t0, t1]) rfl ⟨_, rfl, F5.set2 t0 t1 _ _, (BB4.setCell (by simp; omega) _).setCell (by simp; omega) _⟩
end Go.Proofs.Ytnhhmohicjgpgaa
