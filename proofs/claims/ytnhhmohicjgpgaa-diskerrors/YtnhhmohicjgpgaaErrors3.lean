/-
  What is refused changes nothing; what is done leaves a disk that may be: the walk of DiskErrors.
-/
import Derived.Test.YtnhhmohicjgpgaaLawB
import Derived.Test.YtnhhmohicjgpgaaFits3
namespace Go.Proofs.Ytnhhmohicjgpgaa
open Go.RowKit

set_option maxHeartbeats 4000000 in
theorem diskErrors_walk (cap kind : Int) (v dv : Value) (L : List Pf) (A B : ByteArray) (z : List Int) (w : World) (h : Fl w v L) (hby : Bys L) (hdv : Sl .u8 w dv z) :
    Calls Try.prog 8 #[.agg #[.int .i64 cap, v], .agg #[.int .i64 kind, .string A, .string B, dv]] w fun e w' => e = .returned (.bool true) ∧ Below w.heap.size w w' := by
  obtain ⟨a, sc, rfl, hl, hm, hna, -⟩ := h.open
  obtain ⟨dda, ddc, rfl, -⟩ := id hdv
  obtain ⟨W, hW⟩ : ∃ W, W = ((w.alloc (.cells #[.int .i64 cap, .slice a L.length sc] 24)).alloc (.cells #[.int .i64 kind, .string A, .string B, .slice dda z.length ddc] 39)) := ⟨_, rfl⟩
  have B0 : Below w.heap.size w W := by rw [hW]; exact (below_alloc _ _).alloc (by simp) _
  have c0 : W.cell? ⟨w.heap.size, 0, none⟩ = some (.int .i64 cap) := by rw [hW]; simp [go_sem]
  have c1 : W.cell? ⟨w.heap.size, 1, none⟩ = some (.slice a L.length sc) := by rw [hW]; simp [go_sem]
  have o0 : W.cell? ⟨w.heap.size + 1, 0, none⟩ = some (.int .i64 kind) := by rw [hW]; simp [go_sem]
  have o1 : W.cell? ⟨w.heap.size + 1, 1, none⟩ = some (.string A) := by rw [hW]; simp [go_sem]
  have o2 : W.cell? ⟨w.heap.size + 1, 2, none⟩ = some (.string B) := by rw [hW]; simp [go_sem]
  have o3 : W.cell? ⟨w.heap.size + 1, 3, none⟩ = some (.slice dda z.length ddc) := by rw [hW]; simp [go_sem]
  have H := h.below B0
  have S := hdv.below B0
  have HW := hide hW
  clear hW h hdv
  cases hfew : K.few L with
  | false =>
    cases hfo : K.fewOp A B z with
    | false =>
      go_enter Try.func8, Try.ntmps8
      go_wp2_with fail
      rw [← unhide HW]
      refine (awake3_any _).mono ?_
      rintro e w1 ⟨rfl, B1⟩
      have c0 := cell_keep c0 B1
      have c1 := cell_keep c1 B1
      have o0 := cell_keep o0 B1
      have o1 := cell_keep o1 B1
      have o2 := cell_keep o2 B1
      have o3 := cell_keep o3 B1
      have H := H.below B1
      have S := S.below B1
      have BB := below_trans' B0 B1
      go_wp2_with fail
      refine (few_b _ _ _ _ H _ hfew).mono ?_
      rintro e w2 ⟨rfl, B2⟩
      have c0 := cell_keep c0 B2
      have c1 := cell_keep c1 B2
      have o0 := cell_keep o0 B2
      have o1 := cell_keep o1 B2
      have o2 := cell_keep o2 B2
      have o3 := cell_keep o3 B2
      have H := H.below B2
      have S := S.below B2
      have BB := below_trans' BB B2
      go_wp2_with fail
      refine (fewop_b _ _ _ _ _ _ S _ hfo).mono ?_
      rintro e w3 ⟨rfl, B3⟩
      have c0 := cell_keep c0 B3
      have c1 := cell_keep c1 B3
      have o0 := cell_keep o0 B3
      have o1 := cell_keep o1 B3
      have o2 := cell_keep o2 B3
      have o3 := cell_keep o3 B3
      have H := H.below B3
      have S := S.below B3
      have BB := below_trans' BB B3
      go_wp2
      go_ret
      exact ⟨rfl, BB⟩
    | true =>
      go_enter Try.func8, Try.ntmps8
      go_wp2_with fail
      rw [← unhide HW]
      refine (awake3_any _).mono ?_
      rintro e w1 ⟨rfl, B1⟩
      have c0 := cell_keep c0 B1
      have c1 := cell_keep c1 B1
      have o0 := cell_keep o0 B1
      have o1 := cell_keep o1 B1
      have o2 := cell_keep o2 B1
      have o3 := cell_keep o3 B1
      have H := H.below B1
      have S := S.below B1
      have BB := below_trans' B0 B1
      go_wp2_with fail
      refine (few_b _ _ _ _ H _ hfew).mono ?_
      rintro e w2 ⟨rfl, B2⟩
      have c0 := cell_keep c0 B2
      have c1 := cell_keep c1 B2
      have o0 := cell_keep o0 B2
      have o1 := cell_keep o1 B2
      have o2 := cell_keep o2 B2
      have o3 := cell_keep o3 B2
      have H := H.below B2
      have S := S.below B2
      have BB := below_trans' BB B2
      go_wp2_with fail
      refine (fewop_b _ _ _ _ _ _ S _ hfo).mono ?_
      rintro e w3 ⟨rfl, B3⟩
      have c0 := cell_keep c0 B3
      have c1 := cell_keep c1 B3
      have o0 := cell_keep o0 B3
      have o1 := cell_keep o1 B3
      have o2 := cell_keep o2 B3
      have o3 := cell_keep o3 B3
      have H := H.below B3
      have S := S.below B3
      have BB := below_trans' BB B3
      go_wp2
      go_ret
      exact ⟨rfl, BB⟩
  | true =>
    cases hfo : K.fewOp A B z with
    | false =>
      go_enter Try.func8, Try.ntmps8
      go_wp2_with fail
      rw [← unhide HW]
      refine (awake3_any _).mono ?_
      rintro e w1 ⟨rfl, B1⟩
      have c0 := cell_keep c0 B1
      have c1 := cell_keep c1 B1
      have o0 := cell_keep o0 B1
      have o1 := cell_keep o1 B1
      have o2 := cell_keep o2 B1
      have o3 := cell_keep o3 B1
      have H := H.below B1
      have S := S.below B1
      have BB := below_trans' B0 B1
      go_wp2_with fail
      refine (few_b _ _ _ _ H _ hfew).mono ?_
      rintro e w2 ⟨rfl, B2⟩
      have c0 := cell_keep c0 B2
      have c1 := cell_keep c1 B2
      have o0 := cell_keep o0 B2
      have o1 := cell_keep o1 B2
      have o2 := cell_keep o2 B2
      have o3 := cell_keep o3 B2
      have H := H.below B2
      have S := S.below B2
      have BB := below_trans' BB B2
      go_wp2_with fail
      refine (fewop_b _ _ _ _ _ _ S _ hfo).mono ?_
      rintro e w3 ⟨rfl, B3⟩
      have c0 := cell_keep c0 B3
      have c1 := cell_keep c1 B3
      have o0 := cell_keep o0 B3
      have o1 := cell_keep o1 B3
      have o2 := cell_keep o2 B3
      have o3 := cell_keep o3 B3
      have H := H.below B3
      have S := S.below B3
      have BB := below_trans' BB B3
      go_wp2
      go_ret
      exact ⟨rfl, BB⟩
    | true =>
      have hf := K.few_fits hfew
      obtain ⟨fz, fA, fB⟩ := fewop_len hfo
      obtain ⟨M, r, hr⟩ : ∃ M r, K.doing kind cap L A B z = (M, r) := ⟨_, _, rfl⟩
      by_cases hr0 : r = 0
      · subst hr0
        have hdn := K.do_ok hr
        have hfM : Fits M := done_fits hr hf (by omega) (by omega)
        have hsu := K.may_sum hdn.can
        have HR := hide hr
        have HD := hide hdn
        clear hr hdn
        go_enter Try.func8, Try.ntmps8
        go_wp2_with fail
        rw [← unhide HW]
        refine (awake3_any _).mono ?_
        rintro e w1 ⟨rfl, B1⟩
        have c0 := cell_keep c0 B1
        have c1 := cell_keep c1 B1
        have o0 := cell_keep o0 B1
        have o1 := cell_keep o1 B1
        have o2 := cell_keep o2 B1
        have o3 := cell_keep o3 B1
        have H := H.below B1
        have S := S.below B1
        have BB := below_trans' B0 B1
        go_wp2_with fail
        refine (few_b _ _ _ _ H _ hfew).mono ?_
        rintro e w2 ⟨rfl, B2⟩
        have c0 := cell_keep c0 B2
        have c1 := cell_keep c1 B2
        have o0 := cell_keep o0 B2
        have o1 := cell_keep o1 B2
        have o2 := cell_keep o2 B2
        have o3 := cell_keep o3 B2
        have H := H.below B2
        have S := S.below B2
        have BB := below_trans' BB B2
        go_wp2_with fail
        refine (fewop_b _ _ _ _ _ _ S _ hfo).mono ?_
        rintro e w3 ⟨rfl, B3⟩
        have c0 := cell_keep c0 B3
        have c1 := cell_keep c1 B3
        have o0 := cell_keep o0 B3
        have o1 := cell_keep o1 B3
        have o2 := cell_keep o2 B3
        have o3 := cell_keep o3 B3
        have H := H.below B3
        have S := S.below B3
        have BB := below_trans' BB B3
        go_wp2_with fail
        refine (do_b _ _ _ _ _ _ _ _ _ H S (by omega) (len_of_size fA (by omega)) (len_of_size fB (by omega)) hf _ _ (unhide HR)).mono ?_
        rintro e w4 ⟨v4, rfl, F4, B4⟩
        have c0 := cell_keep c0 B4
        have c1 := cell_keep c1 B4
        have o0 := cell_keep o0 B4
        have o1 := cell_keep o1 B4
        have o2 := cell_keep o2 B4
        have o3 := cell_keep o3 B4
        have H := H.below B4
        have S := S.below B4
        have BB := below_trans' BB B4
        obtain ⟨xa, xc, rfl, -⟩ := id F4
        have hz0c0 : w.heap.size < w4.heap.size := World.block_lt_of_cell? _ _ c0
        have hz1o0 : w.heap.size + 1 < w4.heap.size := World.block_lt_of_cell? _ _ o0
        obtain ⟨W4, hW4⟩ : ∃ W, W = w4.alloc (.cells #[.int .i64 cap, .slice xa M.length xc] 24) := ⟨_, rfl⟩
        have BX4 : Below w4.heap.size w4 W4 := by rw [hW4]; exact below_alloc _ _
        have x0 : W4.cell? ⟨w4.heap.size, 0, none⟩ = some (.int .i64 cap) := by rw [hW4]; simp
        have x1 : W4.cell? ⟨w4.heap.size, 1, none⟩ = some (.slice xa M.length xc) := by rw [hW4]; simp
        have HW4 := hide hW4
        clear hW4
        have H := H.below BX4
        have F4 := F4.below BX4
        have BB := below_trans' BB BX4
        go_wp2
        rw [← unhide HW4]
        have ec0 := cells_below (cell_keep c0 BX4)
        have ec1 := cells_below (cell_keep c1 BX4)
        have ex0 := cells_below x0
        have ex1 := cells_below x1
        have hcc : (cap == cap) = true := by simp
        have hsu' : decide ((K.sum M : Int) ≤ cap) = true := by simpa using hsu
        refine region_below (by kernel_rfl) (by kernel_rfl) ?_
        iterate 21
          (first
            | go_big_quiet_skip
            | (go_big_quiet_want; go_big_quiet_op
               first
                 | go_big_quiet_on
                 | (apply Exists.intro
                    refine ⟨fun w' hw' => ?_, ?_⟩
                    · first
                     | exact rfl
                     | (rw [ex0 w' hw']; dsimp only [Result.andThen]; rw [ex1 w' hw']; exact ⟨rfl, rfl⟩)
                     | (rw [ec0 w' hw']; dsimp only [Result.andThen]; rw [ec1 w' hw']; exact ⟨rfl, rfl⟩)
                     | (rw [ex0 w' hw']; exact ⟨rfl, rfl⟩)
                     | (rw [ec0 w' hw']; exact ⟨rfl, rfl⟩)
                     | (go_at_call_of 18 (Value.agg #[Value.int IntKind.i64 cap, Value.slice xa M.length xc]); exact (may_b _ _ M _ (F4.below hw') hfM _ (unhide HD).can).mono fun e w'' ⟨h1, h2⟩ => ⟨h1, below_trans' hw' h2⟩)
                     | (go_at_call 18; exact (may_b _ _ L _ (H.below hw') hf _ (unhide HD).may).mono fun e w'' ⟨h1, h2⟩ => ⟨h1, below_trans' hw' h2⟩)
                     | (go_at_call 19; exact (used_b3 _ _ M _ (F4.below hw') hfM (K.sum M : Int) (by rw [if_pos (unhide HD).can])).mono fun e w'' ⟨h1, h2⟩ => ⟨h1, below_trans' hw' h2⟩)
                    go_big_quiet_on)))
        refine wpQuiet_nil ?_
        intro w9 hb9
        have BB := below_trans' BB hb9
        go_wp2
        go_ret
        exact ⟨rfl, BB⟩
      · have hM := (K.do_bad hr hr0).symm
        subst hM
        have HR := hide hr
        have hr1 : (r != 0) = true := by simpa using hr0
        clear hr hr0
        go_enter Try.func8, Try.ntmps8
        go_wp2_with fail
        rw [← unhide HW]
        refine (awake3_any _).mono ?_
        rintro e w1 ⟨rfl, B1⟩
        have c0 := cell_keep c0 B1
        have c1 := cell_keep c1 B1
        have o0 := cell_keep o0 B1
        have o1 := cell_keep o1 B1
        have o2 := cell_keep o2 B1
        have o3 := cell_keep o3 B1
        have H := H.below B1
        have S := S.below B1
        have BB := below_trans' B0 B1
        go_wp2_with fail
        refine (few_b _ _ _ _ H _ hfew).mono ?_
        rintro e w2 ⟨rfl, B2⟩
        have c0 := cell_keep c0 B2
        have c1 := cell_keep c1 B2
        have o0 := cell_keep o0 B2
        have o1 := cell_keep o1 B2
        have o2 := cell_keep o2 B2
        have o3 := cell_keep o3 B2
        have H := H.below B2
        have S := S.below B2
        have BB := below_trans' BB B2
        go_wp2_with fail
        refine (fewop_b _ _ _ _ _ _ S _ hfo).mono ?_
        rintro e w3 ⟨rfl, B3⟩
        have c0 := cell_keep c0 B3
        have c1 := cell_keep c1 B3
        have o0 := cell_keep o0 B3
        have o1 := cell_keep o1 B3
        have o2 := cell_keep o2 B3
        have o3 := cell_keep o3 B3
        have H := H.below B3
        have S := S.below B3
        have BB := below_trans' BB B3
        go_wp2_with fail
        refine (do_b _ _ _ _ _ _ _ _ _ H S (by omega) (len_of_size fA (by omega)) (len_of_size fB (by omega)) hf _ _ (unhide HR)).mono ?_
        rintro e w4 ⟨v4, rfl, F4, B4⟩
        have c0 := cell_keep c0 B4
        have c1 := cell_keep c1 B4
        have o0 := cell_keep o0 B4
        have o1 := cell_keep o1 B4
        have o2 := cell_keep o2 B4
        have o3 := cell_keep o3 B4
        have H := H.below B4
        have S := S.below B4
        have BB := below_trans' BB B4
        obtain ⟨xa, xc, rfl, -⟩ := id F4
        have hz0c0 : w.heap.size < w4.heap.size := World.block_lt_of_cell? _ _ c0
        have hz1o0 : w.heap.size + 1 < w4.heap.size := World.block_lt_of_cell? _ _ o0
        obtain ⟨W4, hW4⟩ : ∃ W, W = w4.alloc (.cells #[.int .i64 cap, .slice xa L.length xc] 24) := ⟨_, rfl⟩
        have BX4 : Below w4.heap.size w4 W4 := by rw [hW4]; exact below_alloc _ _
        have x0 : W4.cell? ⟨w4.heap.size, 0, none⟩ = some (.int .i64 cap) := by rw [hW4]; simp
        have x1 : W4.cell? ⟨w4.heap.size, 1, none⟩ = some (.slice xa L.length xc) := by rw [hW4]; simp
        have HW4 := hide hW4
        clear hW4
        have H := H.below BX4
        have F4 := F4.below BX4
        have BB := below_trans' BB BX4
        go_wp2_with fail
        rw [← unhide HW4]
        refine (same_any cap cap _ _ L L _ F4 H hby hby true (by simp [Pf.eqs_refl])).mono ?_
        rintro e w5 ⟨rfl, B5⟩
        have x0 := cell_keep x0 B5
        have x1 := cell_keep x1 B5
        have H := H.below B5
        have F4 := F4.below B5
        have BB := below_trans' BB B5
        go_wp2
        go_ret
        exact ⟨rfl, BB⟩
end Go.Proofs.Ytnhhmohicjgpgaa
