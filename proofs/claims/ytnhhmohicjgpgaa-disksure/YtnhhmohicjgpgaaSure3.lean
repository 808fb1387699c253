/-
  What was written, and made sure, is read behind every crash: the walk of DiskSure.
-/
import Derived.Test.YtnhhmohicjgpgaaLawB
import Derived.Test.YtnhhmohicjgpgaaPlainSure
import Derived.Test.YtnhhmohicjgpgaaKeeps3
namespace Go.Proofs.Ytnhhmohicjgpgaa
open Go.RowKit

theorem take_take_len (z : List Int) (p : Nat) : z.take p = z.take (z.take p).length := by
  rcases Nat.le_total p z.length with h | h
  · rw [List.length_take, Nat.min_eq_left h]
  · rw [List.take_of_length_le h, List.take_of_length_le (Nat.le_refl _)]

set_option maxHeartbeats 8000000 in
theorem diskSure_walk (cap : Int) (v bv pv : Value) (L : List Pf) (nm ot : ByteArray) (z : List Int) (sy : Bool) (ps : List Int) (w : World) (h : Fl w v L) (hnm : nm.size ≤ maxLen) (hot : ot.size ≤ maxLen) (hb : Sl .u8 w bv z) (hp : Sl .i64 w pv ps) :
    Calls Try.prog 7 #[.agg #[.int .i64 cap, v], .string nm, .string ot, bv, .bool sy, pv] w fun e w' => e = .returned (.bool true) ∧ Below w.heap.size w w' := by
  have he : X.e.size ≤ maxLen := by unfold maxLen; decide
  obtain ⟨a, sc, rfl, hl, hm, hna, -⟩ := h.open
  obtain ⟨ba, bc, rfl, hbl, hbm, -⟩ := id hb
  obtain ⟨pa, pc, rfl, -⟩ := id hp
  obtain ⟨W, hW⟩ : ∃ W, W = w.alloc (.cells #[.int .i64 cap, .slice a L.length sc] 24) := ⟨_, rfl⟩
  have B0 : Below w.heap.size w W := by rw [hW]; exact below_alloc _ _
  have c0 : W.cell? ⟨w.heap.size, 0, none⟩ = some (.int .i64 cap) := by rw [hW]; simp
  have c1 : W.cell? ⟨w.heap.size, 1, none⟩ = some (.slice a L.length sc) := by rw [hW]; simp
  have H := h.below B0
  have S := hb.below B0
  have P := hp.below B0
  have HW := hide hW
  have hb0 := hb
  have hp0 := hp
  clear hW h hb hp
  cases hfew : K.few L with
  | false =>
    go_enter Try.func7, Try.ntmps7
    go_wp2_with fail
    rw [← unhide HW]
    refine (awake3_any _).mono ?_
    rintro e w1 ⟨rfl, B1⟩
    have c0 := cell_keep c0 B1
    have c1 := cell_keep c1 B1
    have H := H.below B1
    have S := S.below B1
    have P := P.below B1
    have BB := below_trans' B0 B1
    go_wp2_with fail
    refine (few_b _ _ _ _ H _ hfew).mono ?_
    rintro e w2 ⟨rfl, B2⟩
    have c0 := cell_keep c0 B2
    have c1 := cell_keep c1 B2
    have H := H.below B2
    have S := S.below B2
    have P := P.below B2
    have BB := below_trans' BB B2
    go_wp2
    go_ret
    exact ⟨rfl, BB⟩
  | true =>
    have hf := K.few_fits hfew
    by_cases g1 : 300 < z.length
    · have g1' : decide (300 < (z.length : Int)) = true := by simp; omega
      go_enter Try.func7, Try.ntmps7
      go_wp2_with fail
      rw [← unhide HW]
      refine (awake3_any _).mono ?_
      rintro e w1 ⟨rfl, B1⟩
      have c0 := cell_keep c0 B1
      have c1 := cell_keep c1 B1
      have H := H.below B1
      have S := S.below B1
      have P := P.below B1
      have BB := below_trans' B0 B1
      go_wp2_with fail
      refine (few_b _ _ _ _ H _ hfew).mono ?_
      rintro e w2 ⟨rfl, B2⟩
      have c0 := cell_keep c0 B2
      have c1 := cell_keep c1 B2
      have H := H.below B2
      have S := S.below B2
      have P := P.below B2
      have BB := below_trans' BB B2
      go_wp2
      go_ret
      exact ⟨rfl, BB⟩
    have g1' : decide (300 < (z.length : Int)) = false := by simp; omega
    by_cases g2 : 40 < nm.size
    · have g2' : decide (40 < (nm.size : Int)) = true := by simp; omega
      go_enter Try.func7, Try.ntmps7
      go_wp2_with fail
      rw [← unhide HW]
      refine (awake3_any _).mono ?_
      rintro e w1 ⟨rfl, B1⟩
      have c0 := cell_keep c0 B1
      have c1 := cell_keep c1 B1
      have H := H.below B1
      have S := S.below B1
      have P := P.below B1
      have BB := below_trans' B0 B1
      go_wp2_with fail
      refine (few_b _ _ _ _ H _ hfew).mono ?_
      rintro e w2 ⟨rfl, B2⟩
      have c0 := cell_keep c0 B2
      have c1 := cell_keep c1 B2
      have H := H.below B2
      have S := S.below B2
      have P := P.below B2
      have BB := below_trans' BB B2
      go_wp2
      go_ret
      exact ⟨rfl, BB⟩
    have g2' : decide (40 < (nm.size : Int)) = false := by simp; omega
    by_cases g3 : 40 < ot.size
    · have g3' : decide (40 < (ot.size : Int)) = true := by simp; omega
      go_enter Try.func7, Try.ntmps7
      go_wp2_with fail
      rw [← unhide HW]
      refine (awake3_any _).mono ?_
      rintro e w1 ⟨rfl, B1⟩
      have c0 := cell_keep c0 B1
      have c1 := cell_keep c1 B1
      have H := H.below B1
      have S := S.below B1
      have P := P.below B1
      have BB := below_trans' B0 B1
      go_wp2_with fail
      refine (few_b _ _ _ _ H _ hfew).mono ?_
      rintro e w2 ⟨rfl, B2⟩
      have c0 := cell_keep c0 B2
      have c1 := cell_keep c1 B2
      have H := H.below B2
      have S := S.below B2
      have P := P.below B2
      have BB := below_trans' BB B2
      go_wp2
      go_ret
      exact ⟨rfl, BB⟩
    have g3' : decide (40 < (ot.size : Int)) = false := by simp; omega
    by_cases g4 : 100 < ps.length
    · have g4' : decide (100 < (ps.length : Int)) = true := by simp; omega
      go_enter Try.func7, Try.ntmps7
      go_wp2_with fail
      rw [← unhide HW]
      refine (awake3_any _).mono ?_
      rintro e w1 ⟨rfl, B1⟩
      have c0 := cell_keep c0 B1
      have c1 := cell_keep c1 B1
      have H := H.below B1
      have S := S.below B1
      have P := P.below B1
      have BB := below_trans' B0 B1
      go_wp2_with fail
      refine (few_b _ _ _ _ H _ hfew).mono ?_
      rintro e w2 ⟨rfl, B2⟩
      have c0 := cell_keep c0 B2
      have c1 := cell_keep c1 B2
      have H := H.below B2
      have S := S.below B2
      have P := P.below B2
      have BB := below_trans' BB B2
      go_wp2
      go_ret
      exact ⟨rfl, BB⟩
    have g4' : decide (100 < (ps.length : Int)) = false := by simp; omega
    obtain ⟨M, r, hr⟩ : ∃ M r, K.doing 0 cap L nm X.e z = (M, r) := ⟨_, _, rfl⟩
    by_cases hr0 : r = 0
    case neg =>
      have hr1 : (r != 0) = true := by simpa using hr0
      have HR := hide hr
      clear hr hr0
      go_enter Try.func7, Try.ntmps7
      go_wp2_with fail
      rw [← unhide HW]
      refine (awake3_any _).mono ?_
      rintro e w1 ⟨rfl, B1⟩
      have c0 := cell_keep c0 B1
      have c1 := cell_keep c1 B1
      have H := H.below B1
      have S := S.below B1
      have P := P.below B1
      have BB := below_trans' B0 B1
      go_wp2_with fail
      refine (few_b _ _ _ _ H _ hfew).mono ?_
      rintro e w2 ⟨rfl, B2⟩
      have c0 := cell_keep c0 B2
      have c1 := cell_keep c1 B2
      have H := H.below B2
      have S := S.below B2
      have P := P.below B2
      have BB := below_trans' BB B2
      go_wp2_with fail
      refine (do_b 0 cap _ _ L nm X.e z _ H S (by omega) hnm he hf _ _ (unhide HR)).mono ?_
      rintro e w4 ⟨v4, rfl, F4, B4⟩
      have c0 := cell_keep c0 B4
      have c1 := cell_keep c1 B4
      have H := H.below B4
      have S := S.below B4
      have P := P.below B4
      have BB := below_trans' BB B4
      obtain ⟨xa, xc, rfl, -⟩ := id F4
      have hz := World.block_lt_of_cell? _ _ c0
      have BE := below_trans' BB (below_alloc w4 (.cells #[.int .i64 cap, .slice xa M.length xc] 24))
      go_wp2
      go_ret
      exact ⟨rfl, BE⟩
    case pos =>
      subst hr0
      obtain ⟨hfM, hmM, hnA⟩ := K.do_write_ok hr
      have hFM := done_fits hr hf (by omega) ⟨by omega, by decide⟩
      have HR := hide hr
      clear hr
      cases sy with
      | false =>
        obtain ⟨M3, r3, h3⟩ : ∃ M3 r3, K.doing 2 cap M nm ot [] = (M3, r3) := ⟨_, _, rfl⟩
        have hF3 := do_fits h3 hFM (by simp) ⟨by omega, by omega⟩
        rcases K.do_rename_ok (f := ⟨nm, z, false⟩) hmM hfM hnA h3 with ⟨rfl, -⟩ | ⟨rfl, hf3, hm3⟩
        · have H3 := hide h3
          clear h3
          go_enter Try.func7, Try.ntmps7
          go_wp2_with fail
          rw [← unhide HW]
          refine (awake3_any _).mono ?_
          rintro e w1 ⟨rfl, B1⟩
          have c0 := cell_keep c0 B1
          have c1 := cell_keep c1 B1
          have H := H.below B1
          have S := S.below B1
          have P := P.below B1
          have BB := below_trans' B0 B1
          go_wp2_with fail
          refine (few_b _ _ _ _ H _ hfew).mono ?_
          rintro e w2 ⟨rfl, B2⟩
          have c0 := cell_keep c0 B2
          have c1 := cell_keep c1 B2
          have H := H.below B2
          have S := S.below B2
          have P := P.below B2
          have BB := below_trans' BB B2
          go_wp2_with fail
          refine (do_b 0 cap _ _ L nm X.e z _ H S (by omega) hnm he hf _ _ (unhide HR)).mono ?_
          rintro e w4 ⟨v4, rfl, F4, B4⟩
          have c0 := cell_keep c0 B4
          have c1 := cell_keep c1 B4
          have H := H.below B4
          have S := S.below B4
          have P := P.below B4
          have BB := below_trans' BB B4
          obtain ⟨xa, xc, rfl, -⟩ := id F4
          have hz0c0 : w.heap.size < w4.heap.size := World.block_lt_of_cell? _ _ c0
          obtain ⟨W4, hW4⟩ : ∃ W, W = w4.alloc (.cells #[.int .i64 cap, .slice xa M.length xc] 24) := ⟨_, rfl⟩
          have BX4 : Below w4.heap.size w4 W4 := by rw [hW4]; exact below_alloc _ _
          have x0 : W4.cell? ⟨w4.heap.size, 0, none⟩ = some (.int .i64 cap) := by rw [hW4]; simp
          have x1 : W4.cell? ⟨w4.heap.size, 1, none⟩ = some (.slice xa M.length xc) := by rw [hW4]; simp
          have HW4 := hide hW4
          clear hW4
          have F4 := F4.below BX4
          have S := S.below BX4
          have P := P.below BX4
          have BB := below_trans' BB BX4
          go_wp2_with fail
          rw [← unhide HW4]
          refine (do_b 2 cap _ (.slice none 0 0) M nm ot [] _ F4 (Sl.nil _ _) (by simp) hnm hot hFM _ _ (unhide H3)).mono ?_
          rintro e w5 ⟨v5, rfl, F5, B5⟩
          have x0 := cell_keep x0 B5
          have x1 := cell_keep x1 B5
          have F4 := F4.below B5
          have S := S.below B5
          have P := P.below B5
          have BB := below_trans' BB B5
          obtain ⟨za, zc, rfl, -⟩ := id F5
          have BE := below_trans' BB (below_alloc w5 (.cells #[.int .i64 cap, .slice za M3.length zc] 24))
          go_wp2
          go_ret
          exact ⟨rfl, BE⟩
        · obtain ⟨-, hrd⟩ := K.sure_read (ps := ps) hm3 hf3
          rcases hrd with hrd | ⟨p, hrd⟩
          · have hZl : ([] : List Int).length ≤ z.length := by simp
            have hFc := crash_fits hF3 (K.may_up hm3) ps
            obtain ⟨Z, hZe⟩ : ∃ Z : List Int, Z = [] := ⟨_, rfl⟩
            have hZt : Z = z.take Z.length := by rw [hZe]; simp
            rw [← hZe] at hrd hZl
            have HZ := hide hrd
            have HZT := hide hZt
            obtain ⟨rb, hrb⟩ : ∃ rb, decide (Z = z) = rb := ⟨_, rfl⟩
            have HRB := hide hrb
            have H3 := hide h3
            clear h3 hrd hZe hZt hrb
            go_enter Try.func7, Try.ntmps7
            go_wp2_with fail
            rw [← unhide HW]
            refine (awake3_any _).mono ?_
            rintro e w1 ⟨rfl, B1⟩
            have c0 := cell_keep c0 B1
            have c1 := cell_keep c1 B1
            have H := H.below B1
            have S := S.below B1
            have P := P.below B1
            have BB := below_trans' B0 B1
            go_wp2_with fail
            refine (few_b _ _ _ _ H _ hfew).mono ?_
            rintro e w2 ⟨rfl, B2⟩
            have c0 := cell_keep c0 B2
            have c1 := cell_keep c1 B2
            have H := H.below B2
            have S := S.below B2
            have P := P.below B2
            have BB := below_trans' BB B2
            go_wp2_with fail
            refine (do_b 0 cap _ _ L nm X.e z _ H S (by omega) hnm he hf _ _ (unhide HR)).mono ?_
            rintro e w4 ⟨v4, rfl, F4, B4⟩
            have c0 := cell_keep c0 B4
            have c1 := cell_keep c1 B4
            have H := H.below B4
            have S := S.below B4
            have P := P.below B4
            have BB := below_trans' BB B4
            obtain ⟨xa, xc, rfl, -⟩ := id F4
            have hz0c0 : w.heap.size < w4.heap.size := World.block_lt_of_cell? _ _ c0
            obtain ⟨W4, hW4⟩ : ∃ W, W = w4.alloc (.cells #[.int .i64 cap, .slice xa M.length xc] 24) := ⟨_, rfl⟩
            have BX4 : Below w4.heap.size w4 W4 := by rw [hW4]; exact below_alloc _ _
            have x0 : W4.cell? ⟨w4.heap.size, 0, none⟩ = some (.int .i64 cap) := by rw [hW4]; simp
            have x1 : W4.cell? ⟨w4.heap.size, 1, none⟩ = some (.slice xa M.length xc) := by rw [hW4]; simp
            have HW4 := hide hW4
            clear hW4
            have F4 := F4.below BX4
            have S := S.below BX4
            have P := P.below BX4
            have BB := below_trans' BB BX4
            go_wp2_with fail
            rw [← unhide HW4]
            refine (do_b 2 cap _ (.slice none 0 0) M nm ot [] _ F4 (Sl.nil _ _) (by simp) hnm hot hFM _ _ (unhide H3)).mono ?_
            rintro e w5 ⟨v5, rfl, F5, B5⟩
            have x0 := cell_keep x0 B5
            have x1 := cell_keep x1 B5
            have F4 := F4.below B5
            have S := S.below B5
            have P := P.below B5
            have BB := below_trans' BB B5
            obtain ⟨za, zc, rfl, -⟩ := id F5
            obtain ⟨W5, hW5⟩ : ∃ W, W = w5.alloc (.cells #[.int .i64 cap, .slice za M3.length zc] 24) := ⟨_, rfl⟩
            have BX5 : Below w5.heap.size w5 W5 := by rw [hW5]; exact below_alloc _ _
            have y0 : W5.cell? ⟨w5.heap.size, 0, none⟩ = some (.int .i64 cap) := by rw [hW5]; simp
            have y1 : W5.cell? ⟨w5.heap.size, 1, none⟩ = some (.slice za M3.length zc) := by rw [hW5]; simp
            have HW5 := hide hW5
            clear hW5
            have F5 := F5.below BX5
            have S := S.below BX5
            have P := P.below BX5
            have BB := below_trans' BB BX5
            go_wp2_with fail
            rw [← unhide HW5]
            refine (crash_b cap _ _ M3 ps _ F5 P hF3 (K.crash M3 ps) (by rw [if_pos hm3])).mono ?_
            rintro e w6 ⟨v6, rfl, F6, B6⟩
            have y0 := cell_keep y0 B6
            have y1 := cell_keep y1 B6
            have F5 := F5.below B6
            have S := S.below B6
            have P := P.below B6
            have BB := below_trans' BB B6
            obtain ⟨qa, qc, rfl, -⟩ := id F6
            go_wp2_with fail
            refine (read_b3 cap _ (K.crash M3 ps) ot _ F6 hFc hot _ _ (unhide HZ)).mono ?_
            rintro e w7 ⟨v7, rfl, S7, B7⟩
            obtain ⟨ta, tc, rfl, -⟩ := id S7
            have S := S.below B7
            have BB := below_trans' BB B7
            go_wp2_with fail
            refine (bytes_b _ _ _ _ _ S7 S _ (unhide HRB)).mono ?_
            rintro e w8 ⟨rfl, B8⟩
            have S := S.below B8
            have S7 := S7.below B8
            have BB := below_trans' BB B8
            obtain ⟨sl1, sl2⟩ := S.to Z.length hZl
            have hZi : (Z.length : Int) ≤ (z.length : Int) := by omega
            have hZc : (Z.length : Int) ≤ (bc : Int) := by omega
            go_wp2_with fail
            refine (bytes_b _ _ _ _ _ S7 sl2 true (by rw [← unhide HZT]; simp)).mono ?_
            rintro e w9 ⟨rfl, B9⟩
            have BB := below_trans' BB B9
            go_wp2
            go_ret
            exact ⟨rfl, BB⟩
          · have hZl : (z.take p).length ≤ z.length := by simp; omega
            have hFc := crash_fits hF3 (K.may_up hm3) ps
            obtain ⟨Z, hZe⟩ : ∃ Z, Z = z.take p := ⟨_, rfl⟩
            have hZt : Z = z.take Z.length := by rw [hZe]; exact take_take_len z p
            rw [← hZe] at hrd hZl
            have HZ := hide hrd
            have HZT := hide hZt
            obtain ⟨rb, hrb⟩ : ∃ rb, decide (Z = z) = rb := ⟨_, rfl⟩
            have HRB := hide hrb
            have H3 := hide h3
            clear h3 hrd hZe hZt hrb
            go_enter Try.func7, Try.ntmps7
            go_wp2_with fail
            rw [← unhide HW]
            refine (awake3_any _).mono ?_
            rintro e w1 ⟨rfl, B1⟩
            have c0 := cell_keep c0 B1
            have c1 := cell_keep c1 B1
            have H := H.below B1
            have S := S.below B1
            have P := P.below B1
            have BB := below_trans' B0 B1
            go_wp2_with fail
            refine (few_b _ _ _ _ H _ hfew).mono ?_
            rintro e w2 ⟨rfl, B2⟩
            have c0 := cell_keep c0 B2
            have c1 := cell_keep c1 B2
            have H := H.below B2
            have S := S.below B2
            have P := P.below B2
            have BB := below_trans' BB B2
            go_wp2_with fail
            refine (do_b 0 cap _ _ L nm X.e z _ H S (by omega) hnm he hf _ _ (unhide HR)).mono ?_
            rintro e w4 ⟨v4, rfl, F4, B4⟩
            have c0 := cell_keep c0 B4
            have c1 := cell_keep c1 B4
            have H := H.below B4
            have S := S.below B4
            have P := P.below B4
            have BB := below_trans' BB B4
            obtain ⟨xa, xc, rfl, -⟩ := id F4
            have hz0c0 : w.heap.size < w4.heap.size := World.block_lt_of_cell? _ _ c0
            obtain ⟨W4, hW4⟩ : ∃ W, W = w4.alloc (.cells #[.int .i64 cap, .slice xa M.length xc] 24) := ⟨_, rfl⟩
            have BX4 : Below w4.heap.size w4 W4 := by rw [hW4]; exact below_alloc _ _
            have x0 : W4.cell? ⟨w4.heap.size, 0, none⟩ = some (.int .i64 cap) := by rw [hW4]; simp
            have x1 : W4.cell? ⟨w4.heap.size, 1, none⟩ = some (.slice xa M.length xc) := by rw [hW4]; simp
            have HW4 := hide hW4
            clear hW4
            have F4 := F4.below BX4
            have S := S.below BX4
            have P := P.below BX4
            have BB := below_trans' BB BX4
            go_wp2_with fail
            rw [← unhide HW4]
            refine (do_b 2 cap _ (.slice none 0 0) M nm ot [] _ F4 (Sl.nil _ _) (by simp) hnm hot hFM _ _ (unhide H3)).mono ?_
            rintro e w5 ⟨v5, rfl, F5, B5⟩
            have x0 := cell_keep x0 B5
            have x1 := cell_keep x1 B5
            have F4 := F4.below B5
            have S := S.below B5
            have P := P.below B5
            have BB := below_trans' BB B5
            obtain ⟨za, zc, rfl, -⟩ := id F5
            obtain ⟨W5, hW5⟩ : ∃ W, W = w5.alloc (.cells #[.int .i64 cap, .slice za M3.length zc] 24) := ⟨_, rfl⟩
            have BX5 : Below w5.heap.size w5 W5 := by rw [hW5]; exact below_alloc _ _
            have y0 : W5.cell? ⟨w5.heap.size, 0, none⟩ = some (.int .i64 cap) := by rw [hW5]; simp
            have y1 : W5.cell? ⟨w5.heap.size, 1, none⟩ = some (.slice za M3.length zc) := by rw [hW5]; simp
            have HW5 := hide hW5
            clear hW5
            have F5 := F5.below BX5
            have S := S.below BX5
            have P := P.below BX5
            have BB := below_trans' BB BX5
            go_wp2_with fail
            rw [← unhide HW5]
            refine (crash_b cap _ _ M3 ps _ F5 P hF3 (K.crash M3 ps) (by rw [if_pos hm3])).mono ?_
            rintro e w6 ⟨v6, rfl, F6, B6⟩
            have y0 := cell_keep y0 B6
            have y1 := cell_keep y1 B6
            have F5 := F5.below B6
            have S := S.below B6
            have P := P.below B6
            have BB := below_trans' BB B6
            obtain ⟨qa, qc, rfl, -⟩ := id F6
            go_wp2_with fail
            refine (read_b3 cap _ (K.crash M3 ps) ot _ F6 hFc hot _ _ (unhide HZ)).mono ?_
            rintro e w7 ⟨v7, rfl, S7, B7⟩
            obtain ⟨ta, tc, rfl, -⟩ := id S7
            have S := S.below B7
            have BB := below_trans' BB B7
            go_wp2_with fail
            refine (bytes_b _ _ _ _ _ S7 S _ (unhide HRB)).mono ?_
            rintro e w8 ⟨rfl, B8⟩
            have S := S.below B8
            have S7 := S7.below B8
            have BB := below_trans' BB B8
            obtain ⟨sl1, sl2⟩ := S.to Z.length hZl
            have hZi : (Z.length : Int) ≤ (z.length : Int) := by omega
            have hZc : (Z.length : Int) ≤ (bc : Int) := by omega
            go_wp2_with fail
            refine (bytes_b _ _ _ _ _ S7 sl2 true (by rw [← unhide HZT]; simp)).mono ?_
            rintro e w9 ⟨rfl, B9⟩
            have BB := below_trans' BB B9
            go_wp2
            go_ret
            exact ⟨rfl, BB⟩
      | true =>
        obtain ⟨M2, h2, hf2⟩ := K.do_sync_ok (f := ⟨nm, z, false⟩) (B := X.e) (z := []) hmM hfM hnA
        simp only at h2 hf2
        have hd2 := K.do_ok h2
        have hFM2 := done_fits h2 hFM (by simp) ⟨by omega, by decide⟩
        have hm2 := hd2.can
        have HD2 := hide h2
        obtain ⟨M3, r3, h3⟩ : ∃ M3 r3, K.doing 2 cap M2 nm ot [] = (M3, r3) := ⟨_, _, rfl⟩
        have hF3 := do_fits h3 hFM2 (by simp) ⟨by omega, by omega⟩
        clear h2 hd2
        rcases K.do_rename_ok (f := ⟨nm, z, true⟩) hm2 hf2 hnA h3 with ⟨rfl, -⟩ | ⟨rfl, hf3, hm3⟩
        · have H3 := hide h3
          clear h3
          go_enter Try.func7, Try.ntmps7
          go_wp2_with fail
          rw [← unhide HW]
          refine (awake3_any _).mono ?_
          rintro e w1 ⟨rfl, B1⟩
          have c0 := cell_keep c0 B1
          have c1 := cell_keep c1 B1
          have H := H.below B1
          have S := S.below B1
          have P := P.below B1
          have BB := below_trans' B0 B1
          go_wp2_with fail
          refine (few_b _ _ _ _ H _ hfew).mono ?_
          rintro e w2 ⟨rfl, B2⟩
          have c0 := cell_keep c0 B2
          have c1 := cell_keep c1 B2
          have H := H.below B2
          have S := S.below B2
          have P := P.below B2
          have BB := below_trans' BB B2
          go_wp2_with fail
          refine (do_b 0 cap _ _ L nm X.e z _ H S (by omega) hnm he hf _ _ (unhide HR)).mono ?_
          rintro e w4 ⟨v4, rfl, F4, B4⟩
          have c0 := cell_keep c0 B4
          have c1 := cell_keep c1 B4
          have H := H.below B4
          have S := S.below B4
          have P := P.below B4
          have BB := below_trans' BB B4
          obtain ⟨xa, xc, rfl, -⟩ := id F4
          have hz := World.block_lt_of_cell? _ _ c0
          obtain ⟨W4, hW4⟩ : ∃ W, W = w4.alloc (.cells #[.int .i64 cap, .slice xa M.length xc] 24) := ⟨_, rfl⟩
          have BX4 : Below w4.heap.size w4 W4 := by rw [hW4]; exact below_alloc _ _
          have x0 : W4.cell? ⟨w4.heap.size, 0, none⟩ = some (.int .i64 cap) := by rw [hW4]; simp
          have x1 : W4.cell? ⟨w4.heap.size, 1, none⟩ = some (.slice xa M.length xc) := by rw [hW4]; simp
          have HW4 := hide hW4
          clear hW4
          have F4 := F4.below BX4
          have S := S.below BX4
          have P := P.below BX4
          have BB := below_trans' BB BX4
          go_wp2_with fail
          rw [← unhide HW4]
          refine (do_b 1 cap _ (.slice none 0 0) M nm X.e [] _ F4 (Sl.nil _ _) (by simp) hnm he hFM _ _ (unhide HD2)).mono ?_
          rintro e w5 ⟨v5, rfl, F5, B5⟩
          have x0 := cell_keep x0 B5
          have x1 := cell_keep x1 B5
          have F4 := F4.below B5
          have S := S.below B5
          have P := P.below B5
          have BB := below_trans' BB B5
          obtain ⟨za, zc, rfl, -⟩ := id F5
          have xn0 : W4.frozen? ⟨w4.heap.size, 0, none⟩ = false := by rw [unhide HW4]; simp [go_sem]
          have xn1 : W4.frozen? ⟨w4.heap.size, 1, none⟩ = false := by rw [unhide HW4]; simp [go_sem]
          have xl : w4.heap.size < W4.heap.size := by rw [unhide HW4]; simp
          have xn0 := frozen_keep xn0 B5 xl
          have xn1 := frozen_keep xn1 B5 xl
          have hx5 : w4.heap.size < w5.heap.size := World.block_lt_of_cell? _ _ x0
          obtain ⟨WS, hWS⟩ : ∃ WS, WS = ((w5.setCell ⟨w4.heap.size, 0, none⟩ (.int .i64 cap)).setCell ⟨w4.heap.size, 1, none⟩ (.slice za M2.length zc)).alloc (.cells #[.int .i64 cap, .slice za M2.length zc] 24) := ⟨_, rfl⟩
          have FS := (F5.set2 x0 x1 (.int .i64 cap) (.slice za M2.length zc)).below (below_alloc _ (.cells #[.int .i64 cap, .slice za M2.length zc] 24))
          have BS : Below w.heap.size w WS := by rw [hWS]; exact below_all ((BB.setCell (by have := hz; simp; omega) _).setCell (by have := hz; simp; omega) _) _
          rw [← hWS] at FS
          have SS := hb0.below BS
          have PS := hp0.below BS
          have HWS := hide hWS
          clear hWS
          go_wp2_with fail
          rw [← unhide HWS]
          refine (do_b 2 cap _ (.slice none 0 0) M2 nm ot [] _ FS (Sl.nil _ _) (by simp) hnm hot hFM2 _ _ (unhide H3)).mono ?_
          rintro e w6 ⟨v6, rfl, F6, B6⟩
          obtain ⟨qa, qc, rfl, -⟩ := id F6
          have S := SS.below B6
          have P := PS.below B6
          have BB := below_trans' BS B6
          have BE := below_trans' BB (below_alloc w6 (.cells #[.int .i64 cap, .slice qa M3.length qc] 24))
          go_wp2
          go_ret
          exact ⟨rfl, BE⟩
        · have hrd := (K.sure_read (ps := ps) hm3 hf3).1 rfl
          have hFc := crash_fits hF3 (K.may_up hm3) ps
          have HZ := hide hrd
          have H3 := hide h3
          clear h3 hrd
          go_enter Try.func7, Try.ntmps7
          go_wp2_with fail
          rw [← unhide HW]
          refine (awake3_any _).mono ?_
          rintro e w1 ⟨rfl, B1⟩
          have c0 := cell_keep c0 B1
          have c1 := cell_keep c1 B1
          have H := H.below B1
          have S := S.below B1
          have P := P.below B1
          have BB := below_trans' B0 B1
          go_wp2_with fail
          refine (few_b _ _ _ _ H _ hfew).mono ?_
          rintro e w2 ⟨rfl, B2⟩
          have c0 := cell_keep c0 B2
          have c1 := cell_keep c1 B2
          have H := H.below B2
          have S := S.below B2
          have P := P.below B2
          have BB := below_trans' BB B2
          go_wp2_with fail
          refine (do_b 0 cap _ _ L nm X.e z _ H S (by omega) hnm he hf _ _ (unhide HR)).mono ?_
          rintro e w4 ⟨v4, rfl, F4, B4⟩
          have c0 := cell_keep c0 B4
          have c1 := cell_keep c1 B4
          have H := H.below B4
          have S := S.below B4
          have P := P.below B4
          have BB := below_trans' BB B4
          obtain ⟨xa, xc, rfl, -⟩ := id F4
          have hz := World.block_lt_of_cell? _ _ c0
          obtain ⟨W4, hW4⟩ : ∃ W, W = w4.alloc (.cells #[.int .i64 cap, .slice xa M.length xc] 24) := ⟨_, rfl⟩
          have BX4 : Below w4.heap.size w4 W4 := by rw [hW4]; exact below_alloc _ _
          have x0 : W4.cell? ⟨w4.heap.size, 0, none⟩ = some (.int .i64 cap) := by rw [hW4]; simp
          have x1 : W4.cell? ⟨w4.heap.size, 1, none⟩ = some (.slice xa M.length xc) := by rw [hW4]; simp
          have HW4 := hide hW4
          clear hW4
          have F4 := F4.below BX4
          have S := S.below BX4
          have P := P.below BX4
          have BB := below_trans' BB BX4
          go_wp2_with fail
          rw [← unhide HW4]
          refine (do_b 1 cap _ (.slice none 0 0) M nm X.e [] _ F4 (Sl.nil _ _) (by simp) hnm he hFM _ _ (unhide HD2)).mono ?_
          rintro e w5 ⟨v5, rfl, F5, B5⟩
          have x0 := cell_keep x0 B5
          have x1 := cell_keep x1 B5
          have F4 := F4.below B5
          have S := S.below B5
          have P := P.below B5
          have BB := below_trans' BB B5
          obtain ⟨za, zc, rfl, -⟩ := id F5
          have xn0 : W4.frozen? ⟨w4.heap.size, 0, none⟩ = false := by rw [unhide HW4]; simp [go_sem]
          have xn1 : W4.frozen? ⟨w4.heap.size, 1, none⟩ = false := by rw [unhide HW4]; simp [go_sem]
          have xl : w4.heap.size < W4.heap.size := by rw [unhide HW4]; simp
          have xn0 := frozen_keep xn0 B5 xl
          have xn1 := frozen_keep xn1 B5 xl
          have hx5 : w4.heap.size < w5.heap.size := World.block_lt_of_cell? _ _ x0
          obtain ⟨WS, hWS⟩ : ∃ WS, WS = ((w5.setCell ⟨w4.heap.size, 0, none⟩ (.int .i64 cap)).setCell ⟨w4.heap.size, 1, none⟩ (.slice za M2.length zc)).alloc (.cells #[.int .i64 cap, .slice za M2.length zc] 24) := ⟨_, rfl⟩
          have FS := (F5.set2 x0 x1 (.int .i64 cap) (.slice za M2.length zc)).below (below_alloc _ (.cells #[.int .i64 cap, .slice za M2.length zc] 24))
          have BS : Below w.heap.size w WS := by rw [hWS]; exact below_all ((BB.setCell (by have := hz; simp; omega) _).setCell (by have := hz; simp; omega) _) _
          rw [← hWS] at FS
          have SS := hb0.below BS
          have PS := hp0.below BS
          have HWS := hide hWS
          clear hWS
          go_wp2_with fail
          rw [← unhide HWS]
          refine (do_b 2 cap _ (.slice none 0 0) M2 nm ot [] _ FS (Sl.nil _ _) (by simp) hnm hot hFM2 _ _ (unhide H3)).mono ?_
          rintro e w6 ⟨v6, rfl, F6, B6⟩
          obtain ⟨qa, qc, rfl, -⟩ := id F6
          have S := SS.below B6
          have P := PS.below B6
          have BB := below_trans' BS B6
          obtain ⟨W6, hW6⟩ : ∃ W, W = w6.alloc (.cells #[.int .i64 cap, .slice qa M3.length qc] 24) := ⟨_, rfl⟩
          have BX6 : Below w6.heap.size w6 W6 := by rw [hW6]; exact below_alloc _ _
          have y0 : W6.cell? ⟨w6.heap.size, 0, none⟩ = some (.int .i64 cap) := by rw [hW6]; simp
          have y1 : W6.cell? ⟨w6.heap.size, 1, none⟩ = some (.slice qa M3.length qc) := by rw [hW6]; simp
          have HW6 := hide hW6
          clear hW6
          have F6 := F6.below BX6
          have S := S.below BX6
          have P := P.below BX6
          have BB := below_trans' BB BX6
          go_wp2_with fail
          rw [← unhide HW6]
          refine (crash_b cap _ _ M3 ps _ F6 P hF3 (K.crash M3 ps) (by rw [if_pos hm3])).mono ?_
          rintro e w7 ⟨v7, rfl, F7, B7⟩
          have y0 := cell_keep y0 B7
          have y1 := cell_keep y1 B7
          have F6 := F6.below B7
          have S := S.below B7
          have P := P.below B7
          have BB := below_trans' BB B7
          obtain ⟨ua, uc, rfl, -⟩ := id F7
          go_wp2_with fail
          refine (read_b3 cap _ (K.crash M3 ps) ot _ F7 hFc hot _ _ (unhide HZ)).mono ?_
          rintro e w8 ⟨v8, rfl, S8, B8⟩
          obtain ⟨ta, tc, rfl, -⟩ := id S8
          have S := S.below B8
          have BB := below_trans' BB B8
          go_wp2_with fail
          refine (bytes_b _ _ _ _ _ S8 S true (by simp)).mono ?_
          rintro e w9 ⟨rfl, B9⟩
          have BB := below_trans' BB B9
          go_wp2
          go_ret
          exact ⟨rfl, BB⟩
end Go.Proofs.Ytnhhmohicjgpgaa
