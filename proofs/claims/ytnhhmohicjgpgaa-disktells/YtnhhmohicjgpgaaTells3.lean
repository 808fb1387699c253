/-
  Any disk may be, or not, has the bytes, and files, that the document says: the walk of DiskTells.
-/
import Derived.Test.YtnhhmohicjgpgaaLawB
namespace Go.Proofs.Ytnhhmohicjgpgaa
open Go.RowKit

theorem rread_b3 (cap : Int) (v : Value) (L : List Pf) (s : ByteArray) (w : World) (h : Fl w v L) (hf : Fits L) (z : List Int) (r : Int) (hr : K.read cap L s = (z, r)) :
    Calls Try.prog 13 #[.agg #[.int .i64 cap, v], .string s] w fun e w' => ∃ v', e = .returned (.tuple #[v', .int .i64 r]) ∧ Sl .u8 w' v' z ∧ Below w.heap.size w w' := by
  have := rreadd_any cap v L s w h hf
  rw [hr] at this
  exact this
theorem rused_b3 (cap : Int) (v : Value) (L : List Pf) (w : World) (h : Fl w v L) (hf : Fits L) (r : Int) (hr : ((if K.may cap L = true then K.sum L else 0 : Nat) : Int) = r) :
    Calls Try.prog 20 #[.agg #[.int .i64 cap, v]] w fun e w' => e = .returned (.int .i64 r) ∧ Below w.heap.size w w' := by
  rw [← hr]
  exact rused2_any cap v L w h hf
theorem bool_beq (b : Bool) : (b == b) = true := by simp

set_option maxHeartbeats 8000000 in
theorem diskTells_walk (cap cap2 room : Int) (v v' : Value) (L M : List Pf) (s : ByteArray) (w : World) (h : Fl w v L) (h' : Fl w v' M) (by1 : Bys L) (by2 : Bys M) (hs : s.size ≤ maxLen) :
    Calls Try.prog 3 #[.agg #[.int .i64 cap, v], .agg #[.int .i64 cap2, v'], .string s, .int .i64 room] w fun e w' => e = .returned (.bool true) ∧ Below w.heap.size w w' := by
  obtain ⟨a, sc, rfl, hl, hm, hna, -⟩ := h.open
  obtain ⟨a2, sc2, rfl, hl2, hm2, hna2, -⟩ := h'.open
  obtain ⟨W, hW⟩ : ∃ W, W = ((w.alloc (.cells #[.int .i64 cap, .slice a L.length sc] 24)).alloc (.cells #[.int .i64 cap2, .slice a2 M.length sc2] 24)) := ⟨_, rfl⟩
  have B0 : Below w.heap.size w W := by rw [hW]; exact (below_alloc _ _).alloc (by simp) _
  have c0 : W.cell? ⟨w.heap.size, 0, none⟩ = some (.int .i64 cap) := by rw [hW]; simp [go_sem]
  have c1 : W.cell? ⟨w.heap.size, 1, none⟩ = some (.slice a L.length sc) := by rw [hW]; simp [go_sem]
  have o0 : W.cell? ⟨w.heap.size + 1, 0, none⟩ = some (.int .i64 cap2) := by rw [hW]; simp [go_sem]
  have o1 : W.cell? ⟨w.heap.size + 1, 1, none⟩ = some (.slice a2 M.length sc2) := by rw [hW]; simp [go_sem]
  have H := h.below B0
  have G := h'.below B0
  have HW := hide hW
  clear hW h h'
  cases hfew : K.few L with
  | false =>
    cases hfew2 : K.few M with
    | false =>
      go_enter Try.func3, Try.ntmps3
      go_wp2_with fail
      rw [← unhide HW]
      refine (awake3_any _).mono ?_
      rintro e w1 ⟨rfl, B1⟩
      have c0 := cell_keep c0 B1
      have c1 := cell_keep c1 B1
      have o0 := cell_keep o0 B1
      have o1 := cell_keep o1 B1
      have H := H.below B1
      have G := G.below B1
      have BB := below_trans' B0 B1
      go_wp2_with fail
      refine (few_b _ _ _ _ H _ hfew).mono ?_
      rintro e w2 ⟨rfl, B2⟩
      have c0 := cell_keep c0 B2
      have c1 := cell_keep c1 B2
      have o0 := cell_keep o0 B2
      have o1 := cell_keep o1 B2
      have H := H.below B2
      have G := G.below B2
      have BB := below_trans' BB B2
      go_wp2_with fail
      refine (few_b _ _ _ _ G _ hfew2).mono ?_
      rintro e w3 ⟨rfl, B3⟩
      have c0 := cell_keep c0 B3
      have c1 := cell_keep c1 B3
      have o0 := cell_keep o0 B3
      have o1 := cell_keep o1 B3
      have H := H.below B3
      have G := G.below B3
      have BB := below_trans' BB B3
      go_wp2
      go_ret
      exact ⟨rfl, BB⟩
    | true =>
      go_enter Try.func3, Try.ntmps3
      go_wp2_with fail
      rw [← unhide HW]
      refine (awake3_any _).mono ?_
      rintro e w1 ⟨rfl, B1⟩
      have c0 := cell_keep c0 B1
      have c1 := cell_keep c1 B1
      have o0 := cell_keep o0 B1
      have o1 := cell_keep o1 B1
      have H := H.below B1
      have G := G.below B1
      have BB := below_trans' B0 B1
      go_wp2_with fail
      refine (few_b _ _ _ _ H _ hfew).mono ?_
      rintro e w2 ⟨rfl, B2⟩
      have c0 := cell_keep c0 B2
      have c1 := cell_keep c1 B2
      have o0 := cell_keep o0 B2
      have o1 := cell_keep o1 B2
      have H := H.below B2
      have G := G.below B2
      have BB := below_trans' BB B2
      go_wp2_with fail
      refine (few_b _ _ _ _ G _ hfew2).mono ?_
      rintro e w3 ⟨rfl, B3⟩
      have c0 := cell_keep c0 B3
      have c1 := cell_keep c1 B3
      have o0 := cell_keep o0 B3
      have o1 := cell_keep o1 B3
      have H := H.below B3
      have G := G.below B3
      have BB := below_trans' BB B3
      go_wp2
      go_ret
      exact ⟨rfl, BB⟩
  | true =>
    cases hfew2 : K.few M with
    | false =>
      go_enter Try.func3, Try.ntmps3
      go_wp2_with fail
      rw [← unhide HW]
      refine (awake3_any _).mono ?_
      rintro e w1 ⟨rfl, B1⟩
      have c0 := cell_keep c0 B1
      have c1 := cell_keep c1 B1
      have o0 := cell_keep o0 B1
      have o1 := cell_keep o1 B1
      have H := H.below B1
      have G := G.below B1
      have BB := below_trans' B0 B1
      go_wp2_with fail
      refine (few_b _ _ _ _ H _ hfew).mono ?_
      rintro e w2 ⟨rfl, B2⟩
      have c0 := cell_keep c0 B2
      have c1 := cell_keep c1 B2
      have o0 := cell_keep o0 B2
      have o1 := cell_keep o1 B2
      have H := H.below B2
      have G := G.below B2
      have BB := below_trans' BB B2
      go_wp2_with fail
      refine (few_b _ _ _ _ G _ hfew2).mono ?_
      rintro e w3 ⟨rfl, B3⟩
      have c0 := cell_keep c0 B3
      have c1 := cell_keep c1 B3
      have o0 := cell_keep o0 B3
      have o1 := cell_keep o1 B3
      have H := H.below B3
      have G := G.below B3
      have BB := below_trans' BB B3
      go_wp2
      go_ret
      exact ⟨rfl, BB⟩
    | true =>
      by_cases h40 : 40 < s.size
      · have h40' : decide (40 < (s.size : Int)) = true := by simp; omega
        go_enter Try.func3, Try.ntmps3
        go_wp2_with fail
        rw [← unhide HW]
        refine (awake3_any _).mono ?_
        rintro e w1 ⟨rfl, B1⟩
        have c0 := cell_keep c0 B1
        have c1 := cell_keep c1 B1
        have o0 := cell_keep o0 B1
        have o1 := cell_keep o1 B1
        have H := H.below B1
        have G := G.below B1
        have BB := below_trans' B0 B1
        go_wp2_with fail
        refine (few_b _ _ _ _ H _ hfew).mono ?_
        rintro e w2 ⟨rfl, B2⟩
        have c0 := cell_keep c0 B2
        have c1 := cell_keep c1 B2
        have o0 := cell_keep o0 B2
        have o1 := cell_keep o1 B2
        have H := H.below B2
        have G := G.below B2
        have BB := below_trans' BB B2
        go_wp2_with fail
        refine (few_b _ _ _ _ G _ hfew2).mono ?_
        rintro e w3 ⟨rfl, B3⟩
        have c0 := cell_keep c0 B3
        have c1 := cell_keep c1 B3
        have o0 := cell_keep o0 B3
        have o1 := cell_keep o1 B3
        have H := H.below B3
        have G := G.below B3
        have BB := below_trans' BB B3
        go_wp2
        go_ret
        exact ⟨rfl, BB⟩
      · have h40' : decide (40 < (s.size : Int)) = false := by simp; omega
        have hf := K.few_fits hfew
        have hF0 : Fits [] := ⟨by simp, by simp⟩
        obtain ⟨Z, er, hZ⟩ : ∃ Z e, K.read cap L s = (Z, e) := ⟨_, _, rfl⟩
        obtain ⟨mb, hmb⟩ : ∃ b, K.may cap L = b := ⟨_, rfl⟩
        obtain ⟨ub, hub⟩ : ∃ b : Int, ((if K.may cap L = true then K.sum L else 0 : Nat) : Int) = b := ⟨_, rfl⟩
        obtain ⟨ib, hib⟩ : ∃ b, (if K.may cap L = true then K.at L s else -1) = b := ⟨_, rfl⟩
        obtain ⟨sb, hsb⟩ : ∃ b, (decide (cap = cap2) && Pf.eqs L M) = b := ⟨_, rfl⟩
        have HZ := hide hZ
        have HMB := hide hmb
        have HUB := hide hub
        have HIB := hide hib
        have HSB := hide hsb
        clear hZ hmb hub hib hsb
        cases hrm : K.may room [] with
        | true =>
          go_enter Try.func3, Try.ntmps3
          go_wp2_with fail
          rw [← unhide HW]
          refine (awake3_any _).mono ?_
          rintro e w1 ⟨rfl, B1⟩
          have c0 := cell_keep c0 B1
          have c1 := cell_keep c1 B1
          have o0 := cell_keep o0 B1
          have o1 := cell_keep o1 B1
          have H := H.below B1
          have G := G.below B1
          have BB := below_trans' B0 B1
          go_wp2_with fail
          refine (few_b _ _ _ _ H _ hfew).mono ?_
          rintro e w2 ⟨rfl, B2⟩
          have c0 := cell_keep c0 B2
          have c1 := cell_keep c1 B2
          have o0 := cell_keep o0 B2
          have o1 := cell_keep o1 B2
          have H := H.below B2
          have G := G.below B2
          have BB := below_trans' BB B2
          go_wp2_with fail
          refine (few_b _ _ _ _ G _ hfew2).mono ?_
          rintro e w3 ⟨rfl, B3⟩
          have c0 := cell_keep c0 B3
          have c1 := cell_keep c1 B3
          have o0 := cell_keep o0 B3
          have o1 := cell_keep o1 B3
          have H := H.below B3
          have G := G.below B3
          have BB := below_trans' BB B3
          go_wp2_with fail
          refine (read_b3 _ _ L s _ H hf hs _ _ (unhide HZ)).mono ?_
          rintro e w4 ⟨v4, rfl, S4, B4⟩
          have c0 := cell_keep c0 B4
          have c1 := cell_keep c1 B4
          have o0 := cell_keep o0 B4
          have o1 := cell_keep o1 B4
          have H := H.below B4
          have G := G.below B4
          have BB := below_trans' BB B4
          obtain ⟨za, zc, rfl, -⟩ := id S4
          go_wp2_with fail
          refine (rread_b3 _ _ L s _ H hf _ _ (unhide HZ)).mono ?_
          rintro e w5 ⟨v5, rfl, S5, B5⟩
          have c0 := cell_keep c0 B5
          have c1 := cell_keep c1 B5
          have o0 := cell_keep o0 B5
          have o1 := cell_keep o1 B5
          have H := H.below B5
          have G := G.below B5
          have S4 := S4.below B5
          have BB := below_trans' BB B5
          obtain ⟨ya, yc, rfl, -⟩ := id S5
          go_wp2_with fail
          refine (bytes_b _ _ _ _ _ S4 S5 true (by simp)).mono ?_
          rintro e w6 ⟨rfl, B6⟩
          have c0 := cell_keep c0 B6
          have c1 := cell_keep c1 B6
          have o0 := cell_keep o0 B6
          have o1 := cell_keep o1 B6
          have H := H.below B6
          have G := G.below B6
          have BB := below_trans' BB B6
          go_wp2_with fail
          refine (new_any room _ _ hrm).mono ?_
          rintro e w7 ⟨rfl, B7⟩
          have c0 := cell_keep c0 B7
          have c1 := cell_keep c1 B7
          have o0 := cell_keep o0 B7
          have o1 := cell_keep o1 B7
          have H := H.below B7
          have G := G.below B7
          have BB := below_trans' BB B7
          rw [if_pos rfl]
          have hz0c0 : w.heap.size < w7.heap.size := World.block_lt_of_cell? _ _ c0
          have hz1o0 : w.heap.size + 1 < w7.heap.size := World.block_lt_of_cell? _ _ o0
          obtain ⟨W7, hW7⟩ : ∃ W, W = w7.alloc (.cells #[.int .i64 room, .slice none 0 0] 24) := ⟨_, rfl⟩
          have BX7 : Below w7.heap.size w7 W7 := by rw [hW7]; exact below_alloc _ _
          have x0 : W7.cell? ⟨w7.heap.size, 0, none⟩ = some (.int .i64 room) := by rw [hW7]; simp
          have x1 : W7.cell? ⟨w7.heap.size, 1, none⟩ = some (.slice none 0 0) := by rw [hW7]; simp
          have HW7 := hide hW7
          clear hW7
          have H := H.below BX7
          have G := G.below BX7
          have BB := below_trans' BB BX7
          go_wp2_with fail
          rw [← unhide HW7]
          refine (rmay_b room (.slice none 0 0) [] _ (Fl.nil _) hF0 _ hrm).mono ?_
          rintro e w8 ⟨rfl, B8⟩
          have c0 := cell_keep (cell_keep c0 BX7) B8
          have c1 := cell_keep (cell_keep c1 BX7) B8
          have o0 := cell_keep (cell_keep o0 BX7) B8
          have o1 := cell_keep (cell_keep o1 BX7) B8
          have x0 := cell_keep x0 B8
          have x1 := cell_keep x1 B8
          have H := H.below B8
          have G := G.below B8
          have BB := below_trans' BB B8
          go_wp2_with fail
          refine (rsame_any room room (.slice none 0 0) (.slice none 0 0) [] [] _ (Fl.nil _) (Fl.nil _) true (by simp [Pf.eqs_refl])).mono ?_
          rintro e w10 ⟨rfl, B10⟩
          have c0 := cell_keep c0 B10
          have c1 := cell_keep c1 B10
          have o0 := cell_keep o0 B10
          have o1 := cell_keep o1 B10
          have H := H.below B10
          have G := G.below B10
          have BB := below_trans' BB B10
          have ec0 := cells_below c0
          have ec1 := cells_below c1
          have eo0 := cells_below o0
          have eo1 := cells_below o1
          have hmm : (mb == mb) = true := bool_beq mb
          have huu : (ub == ub) = true := by simp
          have hii : (ib == ib) = true := by simp
          have hee : (er == er) = true := by simp
          have hss : (sb == sb) = true := bool_beq sb
          go_wp2
          refine region_below (by kernel_rfl) (by kernel_rfl) ?_
          iterate 22
            (first
              | go_big_quiet_skip
              | (go_big_quiet_want; go_big_quiet_op
                 first
                   | go_big_quiet_on
                   | (apply Exists.intro
                      refine ⟨fun w' hw' => ?_, ?_⟩
                      · first
                       | exact rfl
                       | (rw [ec0 w' hw']; dsimp only [Result.andThen]; rw [ec1 w' hw']; exact ⟨rfl, rfl⟩)
                       | (go_at_call 18; exact (may_b _ _ L _ (H.below hw') hf _ (unhide HMB)).mono fun e w'' ⟨h1, h2⟩ => ⟨h1, below_trans' hw' h2⟩)
                       | (go_at_call 16; exact (rmay_b _ _ L _ (H.below hw') hf _ (unhide HMB)).mono fun e w'' ⟨h1, h2⟩ => ⟨h1, below_trans' hw' h2⟩)
                       | (go_at_call 19; exact (used_b3 _ _ L _ (H.below hw') hf _ (unhide HUB)).mono fun e w'' ⟨h1, h2⟩ => ⟨h1, below_trans' hw' h2⟩)
                       | (go_at_call 20; exact (rused_b3 _ _ L _ (H.below hw') hf _ (unhide HUB)).mono fun e w'' ⟨h1, h2⟩ => ⟨h1, below_trans' hw' h2⟩)
                       | (go_at_call 21; exact (find_b _ _ L s _ (H.below hw') hf hs _ (unhide HIB)).mono fun e w'' ⟨h1, h2⟩ => ⟨h1, below_trans' hw' h2⟩)
                       | (go_at_call 22; exact (rfind_b _ _ L s _ (H.below hw') hf _ (unhide HIB)).mono fun e w'' ⟨h1, h2⟩ => ⟨h1, below_trans' hw' h2⟩)
                      go_big_quiet_on)))
          refine wpQuiet_nil ?_
          intro w9 hb9
          have H := H.below hb9
          have G := G.below hb9
          have BB := below_trans' BB hb9
          have c0 := cell_keep c0 hb9
          have c1 := cell_keep c1 hb9
          have o0 := cell_keep o0 hb9
          have o1 := cell_keep o1 hb9
          clear hb9 ec0 ec1 eo0 eo1
          have ec0 := cells_below c0
          have ec1 := cells_below c1
          have eo0 := cells_below o0
          have eo1 := cells_below o1
          go_wp2
          refine region_below (by kernel_rfl) (by kernel_rfl) ?_
          iterate 27
            (first
              | go_big_quiet_skip
              | (go_big_quiet_want; go_big_quiet_op
                 first
                   | go_big_quiet_on
                   | (apply Exists.intro
                      refine ⟨fun w' hw' => ?_, ?_⟩
                      · first
                       | exact rfl
                       | (rw [ec0 w' hw']; dsimp only [Result.andThen]; rw [ec1 w' hw']; exact ⟨rfl, rfl⟩)
                       | (rw [eo0 w' hw']; dsimp only [Result.andThen]; rw [eo1 w' hw']; exact ⟨rfl, rfl⟩)
                       | (go_at_call 23; exact (same_any _ _ _ _ L M _ (H.below hw') (G.below hw') by1 by2 _ (unhide HSB)).mono fun e w'' ⟨h1, h2⟩ => ⟨h1, below_trans' hw' h2⟩)
                       | (go_at_call 17; exact (rsame_any _ _ _ _ L M _ (H.below hw') (G.below hw') _ (unhide HSB)).mono fun e w'' ⟨h1, h2⟩ => ⟨h1, below_trans' hw' h2⟩)
                      go_big_quiet_on)))
          refine wpQuiet_nil ?_
          intro w19 hb19
          have BB := below_trans' BB hb19
          go_wp2
          go_ret
          exact ⟨rfl, BB⟩
        | false =>
          go_enter Try.func3, Try.ntmps3
          go_wp2_with fail
          rw [← unhide HW]
          refine (awake3_any _).mono ?_
          rintro e w1 ⟨rfl, B1⟩
          have c0 := cell_keep c0 B1
          have c1 := cell_keep c1 B1
          have o0 := cell_keep o0 B1
          have o1 := cell_keep o1 B1
          have H := H.below B1
          have G := G.below B1
          have BB := below_trans' B0 B1
          go_wp2_with fail
          refine (few_b _ _ _ _ H _ hfew).mono ?_
          rintro e w2 ⟨rfl, B2⟩
          have c0 := cell_keep c0 B2
          have c1 := cell_keep c1 B2
          have o0 := cell_keep o0 B2
          have o1 := cell_keep o1 B2
          have H := H.below B2
          have G := G.below B2
          have BB := below_trans' BB B2
          go_wp2_with fail
          refine (few_b _ _ _ _ G _ hfew2).mono ?_
          rintro e w3 ⟨rfl, B3⟩
          have c0 := cell_keep c0 B3
          have c1 := cell_keep c1 B3
          have o0 := cell_keep o0 B3
          have o1 := cell_keep o1 B3
          have H := H.below B3
          have G := G.below B3
          have BB := below_trans' BB B3
          go_wp2_with fail
          refine (read_b3 _ _ L s _ H hf hs _ _ (unhide HZ)).mono ?_
          rintro e w4 ⟨v4, rfl, S4, B4⟩
          have c0 := cell_keep c0 B4
          have c1 := cell_keep c1 B4
          have o0 := cell_keep o0 B4
          have o1 := cell_keep o1 B4
          have H := H.below B4
          have G := G.below B4
          have BB := below_trans' BB B4
          obtain ⟨za, zc, rfl, -⟩ := id S4
          go_wp2_with fail
          refine (rread_b3 _ _ L s _ H hf _ _ (unhide HZ)).mono ?_
          rintro e w5 ⟨v5, rfl, S5, B5⟩
          have c0 := cell_keep c0 B5
          have c1 := cell_keep c1 B5
          have o0 := cell_keep o0 B5
          have o1 := cell_keep o1 B5
          have H := H.below B5
          have G := G.below B5
          have S4 := S4.below B5
          have BB := below_trans' BB B5
          obtain ⟨ya, yc, rfl, -⟩ := id S5
          go_wp2_with fail
          refine (bytes_b _ _ _ _ _ S4 S5 true (by simp)).mono ?_
          rintro e w6 ⟨rfl, B6⟩
          have c0 := cell_keep c0 B6
          have c1 := cell_keep c1 B6
          have o0 := cell_keep o0 B6
          have o1 := cell_keep o1 B6
          have H := H.below B6
          have G := G.below B6
          have BB := below_trans' BB B6
          go_wp2_with fail
          refine (new_any room _ _ hrm).mono ?_
          rintro e w7 ⟨rfl, B7⟩
          have c0 := cell_keep c0 B7
          have c1 := cell_keep c1 B7
          have o0 := cell_keep o0 B7
          have o1 := cell_keep o1 B7
          have H := H.below B7
          have G := G.below B7
          have BB := below_trans' BB B7
          rw [if_neg (by simp)]
          have hz0c0 : w.heap.size < w7.heap.size := World.block_lt_of_cell? _ _ c0
          have hz1o0 : w.heap.size + 1 < w7.heap.size := World.block_lt_of_cell? _ _ o0
          obtain ⟨W7, hW7⟩ : ∃ W, W = w7.alloc (.cells #[.int .i64 0, .slice none 0 0] 24) := ⟨_, rfl⟩
          have BX7 : Below w7.heap.size w7 W7 := by rw [hW7]; exact below_alloc _ _
          have x0 : W7.cell? ⟨w7.heap.size, 0, none⟩ = some (.int .i64 0) := by rw [hW7]; simp
          have x1 : W7.cell? ⟨w7.heap.size, 1, none⟩ = some (.slice none 0 0) := by rw [hW7]; simp
          have HW7 := hide hW7
          clear hW7
          have H := H.below BX7
          have G := G.below BX7
          have BB := below_trans' BB BX7
          go_wp2_with fail
          rw [← unhide HW7]
          refine (rmay_b room (.slice none 0 0) [] _ (Fl.nil _) hF0 _ hrm).mono ?_
          rintro e w8 ⟨rfl, B8⟩
          have c0 := cell_keep (cell_keep c0 BX7) B8
          have c1 := cell_keep (cell_keep c1 BX7) B8
          have o0 := cell_keep (cell_keep o0 BX7) B8
          have o1 := cell_keep (cell_keep o1 BX7) B8
          have x0 := cell_keep x0 B8
          have x1 := cell_keep x1 B8
          have H := H.below B8
          have G := G.below B8
          have BB := below_trans' BB B8
          go_wp2_with fail
          refine (rsame_any 0 0 (.slice none 0 0) (.slice none 0 0) [] [] _ (Fl.nil _) (Fl.nil _) true (by simp [Pf.eqs_refl])).mono ?_
          rintro e w10 ⟨rfl, B10⟩
          have c0 := cell_keep c0 B10
          have c1 := cell_keep c1 B10
          have o0 := cell_keep o0 B10
          have o1 := cell_keep o1 B10
          have H := H.below B10
          have G := G.below B10
          have BB := below_trans' BB B10
          have ec0 := cells_below c0
          have ec1 := cells_below c1
          have eo0 := cells_below o0
          have eo1 := cells_below o1
          have hmm : (mb == mb) = true := bool_beq mb
          have huu : (ub == ub) = true := by simp
          have hii : (ib == ib) = true := by simp
          have hee : (er == er) = true := by simp
          have hss : (sb == sb) = true := bool_beq sb
          go_wp2
          refine region_below (by kernel_rfl) (by kernel_rfl) ?_
          iterate 22
            (first
              | go_big_quiet_skip
              | (go_big_quiet_want; go_big_quiet_op
                 first
                   | go_big_quiet_on
                   | (apply Exists.intro
                      refine ⟨fun w' hw' => ?_, ?_⟩
                      · first
                       | exact rfl
                       | (rw [ec0 w' hw']; dsimp only [Result.andThen]; rw [ec1 w' hw']; exact ⟨rfl, rfl⟩)
                       | (go_at_call 18; exact (may_b _ _ L _ (H.below hw') hf _ (unhide HMB)).mono fun e w'' ⟨h1, h2⟩ => ⟨h1, below_trans' hw' h2⟩)
                       | (go_at_call 16; exact (rmay_b _ _ L _ (H.below hw') hf _ (unhide HMB)).mono fun e w'' ⟨h1, h2⟩ => ⟨h1, below_trans' hw' h2⟩)
                       | (go_at_call 19; exact (used_b3 _ _ L _ (H.below hw') hf _ (unhide HUB)).mono fun e w'' ⟨h1, h2⟩ => ⟨h1, below_trans' hw' h2⟩)
                       | (go_at_call 20; exact (rused_b3 _ _ L _ (H.below hw') hf _ (unhide HUB)).mono fun e w'' ⟨h1, h2⟩ => ⟨h1, below_trans' hw' h2⟩)
                       | (go_at_call 21; exact (find_b _ _ L s _ (H.below hw') hf hs _ (unhide HIB)).mono fun e w'' ⟨h1, h2⟩ => ⟨h1, below_trans' hw' h2⟩)
                       | (go_at_call 22; exact (rfind_b _ _ L s _ (H.below hw') hf _ (unhide HIB)).mono fun e w'' ⟨h1, h2⟩ => ⟨h1, below_trans' hw' h2⟩)
                      go_big_quiet_on)))
          refine wpQuiet_nil ?_
          intro w9 hb9
          have H := H.below hb9
          have G := G.below hb9
          have BB := below_trans' BB hb9
          have c0 := cell_keep c0 hb9
          have c1 := cell_keep c1 hb9
          have o0 := cell_keep o0 hb9
          have o1 := cell_keep o1 hb9
          clear hb9 ec0 ec1 eo0 eo1
          have ec0 := cells_below c0
          have ec1 := cells_below c1
          have eo0 := cells_below o0
          have eo1 := cells_below o1
          go_wp2
          refine region_below (by kernel_rfl) (by kernel_rfl) ?_
          iterate 27
            (first
              | go_big_quiet_skip
              | (go_big_quiet_want; go_big_quiet_op
                 first
                   | go_big_quiet_on
                   | (apply Exists.intro
                      refine ⟨fun w' hw' => ?_, ?_⟩
                      · first
                       | exact rfl
                       | (rw [ec0 w' hw']; dsimp only [Result.andThen]; rw [ec1 w' hw']; exact ⟨rfl, rfl⟩)
                       | (rw [eo0 w' hw']; dsimp only [Result.andThen]; rw [eo1 w' hw']; exact ⟨rfl, rfl⟩)
                       | (go_at_call 23; exact (same_any _ _ _ _ L M _ (H.below hw') (G.below hw') by1 by2 _ (unhide HSB)).mono fun e w'' ⟨h1, h2⟩ => ⟨h1, below_trans' hw' h2⟩)
                       | (go_at_call 17; exact (rsame_any _ _ _ _ L M _ (H.below hw') (G.below hw') _ (unhide HSB)).mono fun e w'' ⟨h1, h2⟩ => ⟨h1, below_trans' hw' h2⟩)
                      go_big_quiet_on)))
          refine wpQuiet_nil ?_
          intro w19 hb19
          have BB := below_trans' BB hb19
          go_wp2
          go_ret
          exact ⟨rfl, BB⟩
end Go.Proofs.Ytnhhmohicjgpgaa
