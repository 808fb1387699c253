/-
  Whatever is done to any disk, what comes of it is what the document says: the walk of DiskDoes.
-/
import Derived.Test.YtnhhmohicjgpgaaLawB
namespace Go.Proofs.Ytnhhmohicjgpgaa
open Go.RowKit

set_option maxHeartbeats 4000000 in
theorem diskDoes_walk (cap kind : Int) (v dv : Value) (L : List Pf) (A B : ByteArray) (z : List Int) (w : World) (h : Fl w v L) (hdv : Sl .u8 w dv z) :
    Calls Try.prog 4 #[.agg #[.int .i64 cap, v], .agg #[.int .i64 kind, .string A, .string B, dv]] w fun e w' => e = .returned (.bool true) ∧ Below w.heap.size w w' := by
  obtain ⟨a, sc, rfl, hl, hm, hna, -⟩ := h.open
  obtain ⟨dda, ddc, rfl, -⟩ := id hdv
  obtain ⟨W, hW⟩ : ∃ W, W = ((w.alloc (.cells #[.int .i64 cap, .slice a L.length sc] 24)).alloc (.cells #[.int .i64 kind, .string A, .string B, .slice dda z.length ddc] 39)) := ⟨_, rfl⟩
  have B0 : Below w.heap.size w W := by rw [hW]; exact (below_alloc _ _).alloc (by simp) _
  have c0 : W.cell? ⟨w.heap.size, 0, none⟩ = some (.int .i64 cap) := by rw [hW]; simp [go_sem]
  have c1 : W.cell? ⟨w.heap.size, 1, none⟩ = some (.slice a L.length sc) := by rw [hW]; simp [go_sem]
  have o0 : W.cell? ⟨w.heap.size + 1, 0, none⟩ = some (.int .i64 kind) := by rw [hW]; simp [go_sem]
  have o1 : W.cell? ⟨w.heap.size + 1, 1, none⟩ = some (.string A) := by rw [hW]; simp [go_sem]
  have o2 : W.cell? ⟨w.heap.size + 1, 2, none⟩ = some (.string B) := by rw [hW]; simp [go_sem]
  have o3 : W.cell? ⟨w.heap.size + 1, 3, none⟩ = some (.slice dda z.length ddc) := by rw [hW]; simp [go_sem]
  have H := h.below B0
  have S := hdv.below B0
  have HW := hide hW
  clear hW h hdv
  cases hfew : K.few L with
  | false =>
    cases hfo : K.fewOp A B z with
    | false =>
      go_enter Try.func4, Try.ntmps4
      go_wp2_with fail
      rw [← unhide HW]
      refine (awake3_any _).mono ?_
      rintro e w1 ⟨rfl, B1⟩
      have c0 := cell_keep c0 B1
      have c1 := cell_keep c1 B1
      have o0 := cell_keep o0 B1
      have o1 := cell_keep o1 B1
      have o2 := cell_keep o2 B1
      have o3 := cell_keep o3 B1
      have H := H.below B1
      have S := S.below B1
      have BB := below_trans' B0 B1
      go_wp2_with fail
      refine (few_b _ _ _ _ H _ hfew).mono ?_
      rintro e w2 ⟨rfl, B2⟩
      have c0 := cell_keep c0 B2
      have c1 := cell_keep c1 B2
      have o0 := cell_keep o0 B2
      have o1 := cell_keep o1 B2
      have o2 := cell_keep o2 B2
      have o3 := cell_keep o3 B2
      have H := H.below B2
      have S := S.below B2
      have BB := below_trans' BB B2
      go_wp2_with fail
      refine (fewop_b _ _ _ _ _ _ S _ hfo).mono ?_
      rintro e w3 ⟨rfl, B3⟩
      have c0 := cell_keep c0 B3
      have c1 := cell_keep c1 B3
      have o0 := cell_keep o0 B3
      have o1 := cell_keep o1 B3
      have o2 := cell_keep o2 B3
      have o3 := cell_keep o3 B3
      have H := H.below B3
      have S := S.below B3
      have BB := below_trans' BB B3
      go_wp2
      go_ret
      exact ⟨rfl, BB⟩
    | true =>
      go_enter Try.func4, Try.ntmps4
      go_wp2_with fail
      rw [← unhide HW]
      refine (awake3_any _).mono ?_
      rintro e w1 ⟨rfl, B1⟩
      have c0 := cell_keep c0 B1
      have c1 := cell_keep c1 B1
      have o0 := cell_keep o0 B1
      have o1 := cell_keep o1 B1
      have o2 := cell_keep o2 B1
      have o3 := cell_keep o3 B1
      have H := H.below B1
      have S := S.below B1
      have BB := below_trans' B0 B1
      go_wp2_with fail
      refine (few_b _ _ _ _ H _ hfew).mono ?_
      rintro e w2 ⟨rfl, B2⟩
      have c0 := cell_keep c0 B2
      have c1 := cell_keep c1 B2
      have o0 := cell_keep o0 B2
      have o1 := cell_keep o1 B2
      have o2 := cell_keep o2 B2
      have o3 := cell_keep o3 B2
      have H := H.below B2
      have S := S.below B2
      have BB := below_trans' BB B2
      go_wp2_with fail
      refine (fewop_b _ _ _ _ _ _ S _ hfo).mono ?_
      rintro e w3 ⟨rfl, B3⟩
      have c0 := cell_keep c0 B3
      have c1 := cell_keep c1 B3
      have o0 := cell_keep o0 B3
      have o1 := cell_keep o1 B3
      have o2 := cell_keep o2 B3
      have o3 := cell_keep o3 B3
      have H := H.below B3
      have S := S.below B3
      have BB := below_trans' BB B3
      go_wp2
      go_ret
      exact ⟨rfl, BB⟩
  | true =>
    cases hfo : K.fewOp A B z with
    | false =>
      go_enter Try.func4, Try.ntmps4
      go_wp2_with fail
      rw [← unhide HW]
      refine (awake3_any _).mono ?_
      rintro e w1 ⟨rfl, B1⟩
      have c0 := cell_keep c0 B1
      have c1 := cell_keep c1 B1
      have o0 := cell_keep o0 B1
      have o1 := cell_keep o1 B1
      have o2 := cell_keep o2 B1
      have o3 := cell_keep o3 B1
      have H := H.below B1
      have S := S.below B1
      have BB := below_trans' B0 B1
      go_wp2_with fail
      refine (few_b _ _ _ _ H _ hfew).mono ?_
      rintro e w2 ⟨rfl, B2⟩
      have c0 := cell_keep c0 B2
      have c1 := cell_keep c1 B2
      have o0 := cell_keep o0 B2
      have o1 := cell_keep o1 B2
      have o2 := cell_keep o2 B2
      have o3 := cell_keep o3 B2
      have H := H.below B2
      have S := S.below B2
      have BB := below_trans' BB B2
      go_wp2_with fail
      refine (fewop_b _ _ _ _ _ _ S _ hfo).mono ?_
      rintro e w3 ⟨rfl, B3⟩
      have c0 := cell_keep c0 B3
      have c1 := cell_keep c1 B3
      have o0 := cell_keep o0 B3
      have o1 := cell_keep o1 B3
      have o2 := cell_keep o2 B3
      have o3 := cell_keep o3 B3
      have H := H.below B3
      have S := S.below B3
      have BB := below_trans' BB B3
      go_wp2
      go_ret
      exact ⟨rfl, BB⟩
    | true =>
      have hf := K.few_fits hfew
      obtain ⟨fz, fA, fB⟩ := fewop_len hfo
      obtain ⟨M, r, hr⟩ : ∃ M r, K.doing kind cap L A B z = (M, r) := ⟨_, _, rfl⟩
      have HR := hide hr
      clear hr
      go_enter Try.func4, Try.ntmps4
      go_wp2_with fail
      rw [← unhide HW]
      refine (awake3_any _).mono ?_
      rintro e w1 ⟨rfl, B1⟩
      have c0 := cell_keep c0 B1
      have c1 := cell_keep c1 B1
      have o0 := cell_keep o0 B1
      have o1 := cell_keep o1 B1
      have o2 := cell_keep o2 B1
      have o3 := cell_keep o3 B1
      have H := H.below B1
      have S := S.below B1
      have BB := below_trans' B0 B1
      go_wp2_with fail
      refine (few_b _ _ _ _ H _ hfew).mono ?_
      rintro e w2 ⟨rfl, B2⟩
      have c0 := cell_keep c0 B2
      have c1 := cell_keep c1 B2
      have o0 := cell_keep o0 B2
      have o1 := cell_keep o1 B2
      have o2 := cell_keep o2 B2
      have o3 := cell_keep o3 B2
      have H := H.below B2
      have S := S.below B2
      have BB := below_trans' BB B2
      go_wp2_with fail
      refine (fewop_b _ _ _ _ _ _ S _ hfo).mono ?_
      rintro e w3 ⟨rfl, B3⟩
      have c0 := cell_keep c0 B3
      have c1 := cell_keep c1 B3
      have o0 := cell_keep o0 B3
      have o1 := cell_keep o1 B3
      have o2 := cell_keep o2 B3
      have o3 := cell_keep o3 B3
      have H := H.below B3
      have S := S.below B3
      have BB := below_trans' BB B3
      go_wp2_with fail
      refine (do_b _ _ _ _ _ _ _ _ _ H S (by omega) (len_of_size fA (by omega)) (len_of_size fB (by omega)) hf _ _ (unhide HR)).mono ?_
      rintro e w4 ⟨v4, rfl, F4, B4⟩
      have c0 := cell_keep c0 B4
      have c1 := cell_keep c1 B4
      have o0 := cell_keep o0 B4
      have o1 := cell_keep o1 B4
      have o2 := cell_keep o2 B4
      have o3 := cell_keep o3 B4
      have H := H.below B4
      have S := S.below B4
      have BB := below_trans' BB B4
      obtain ⟨xa, xc, rfl, -⟩ := id F4
      have hz0c0 : w.heap.size < w4.heap.size := World.block_lt_of_cell? _ _ c0
      have hz1o0 : w.heap.size + 1 < w4.heap.size := World.block_lt_of_cell? _ _ o0
      obtain ⟨W4, hW4⟩ : ∃ W, W = w4.alloc (.cells #[.int .i64 cap, .slice xa M.length xc] 24) := ⟨_, rfl⟩
      have BX4 : Below w4.heap.size w4 W4 := by rw [hW4]; exact below_alloc _ _
      have x0 : W4.cell? ⟨w4.heap.size, 0, none⟩ = some (.int .i64 cap) := by rw [hW4]; simp
      have x1 : W4.cell? ⟨w4.heap.size, 1, none⟩ = some (.slice xa M.length xc) := by rw [hW4]; simp
      have HW4 := hide hW4
      clear hW4
      have H := H.below BX4
      have S := S.below BX4
      have F4 := F4.below BX4
      have BB := below_trans' BB BX4
      go_wp2_with fail
      rw [← unhide HW4]
      refine (rdo_b _ _ _ _ _ _ _ _ _ H S (by omega) (len_of_size fA (by omega)) (len_of_size fB (by omega)) hf _ _ (unhide HR)).mono ?_
      rintro e w5 ⟨v5, rfl, F5, B5⟩
      have x0 := cell_keep x0 B5
      have x1 := cell_keep x1 B5
      have H := H.below B5
      have S := S.below B5
      have F4 := F4.below B5
      have BB := below_trans' BB B5
      obtain ⟨ya, yc, rfl, -⟩ := id F5
      have hz0x0 : w4.heap.size < w5.heap.size := World.block_lt_of_cell? _ _ x0
      obtain ⟨W5, hW5⟩ : ∃ W, W = w5.alloc (.cells #[.int .i64 cap, .slice ya M.length yc] 24) := ⟨_, rfl⟩
      have BX5 : Below w5.heap.size w5 W5 := by rw [hW5]; exact below_alloc _ _
      have y0 : W5.cell? ⟨w5.heap.size, 0, none⟩ = some (.int .i64 cap) := by rw [hW5]; simp
      have y1 : W5.cell? ⟨w5.heap.size, 1, none⟩ = some (.slice ya M.length yc) := by rw [hW5]; simp
      have HW5 := hide hW5
      clear hW5
      have F4 := F4.below BX5
      have F5 := F5.below BX5
      have BB := below_trans' BB BX5
      go_wp2_with fail
      rw [← unhide HW5]
      refine (rsame_any cap cap _ _ M M _ F4 F5 true (by simp [Pf.eqs_refl])).mono ?_
      rintro e w6 ⟨rfl, B6⟩
      have F4 := F4.below B6
      have F5 := F5.below B6
      have BB := below_trans' BB B6
      go_wp2
      go_ret
      exact ⟨rfl, BB⟩
end Go.Proofs.Ytnhhmohicjgpgaa
