/-
  The chapter's example holds: the contract of the statements' own 'awake' (disk).
-/
import Derived.Test.YtnhhmohicjgpgaaDoAll
import Derived.Test.YtnhhmohicjgpgaaCrash
import Derived.Test.YtnhhmohicjgpgaaRSame
namespace Go.Proofs.Ytnhhmohicjgpgaa
open Go.RowKit

def X.ab : ByteArray := ⟨#[97, 98]⟩
def X.b : ByteArray := ⟨#[98]⟩
def X.e : ByteArray := ⟨#[]⟩
def X.L : List Pf := [⟨X.ab, [1, 2, 3], false⟩]
def X.M : List Pf := [⟨X.ab, [1, 2], true⟩]
theorem X.new : K.may 5 [] = true := by decide +kernel
theorem X.do1 : K.doing 0 5 [] X.ab X.e [1, 2, 3] = (X.L, 0) := by kernel_rfl
theorem X.do2 : K.doing 0 5 X.L X.b X.e [1, 2, 3] = (X.L, 4) := by kernel_rfl
theorem X.crash : (if K.may 5 X.L = true then K.crash X.L [2] else X.L) = X.M := by kernel_rfl
theorem X.read : K.read 5 X.M X.ab = ([1, 2], 0) := by kernel_rfl
theorem X.find : (if K.may 5 X.M = true then K.at X.M X.ab else -1) = 0 := by decide +kernel
theorem X.used : (if K.may 5 X.L = true then K.sum X.L else 0) = 3 := by decide +kernel
theorem X.may : K.may 5 X.L = true := by decide +kernel
theorem X.fitsL : Fits X.L := ⟨by decide, by intro f hf; simp [X.L] at hf; subst hf; exact ⟨by decide, by decide⟩⟩
theorem X.fitsM : Fits X.M := ⟨by decide, by intro f hf; simp [X.M] at hf; subst hf; exact ⟨by decide, by decide⟩⟩
theorem X.bysL : Bys X.L := by intro f hf; simp [X.L] at hf; subst hf; intro c hc; simp at hc; omega

theorem lit3 (w : World) (n : Nat) (hn : n = w.heap.size) : Sl .u8 (w.alloc (.cells #[.int .u8 1, .int .u8 2, .int .u8 3] 5)) (.slice (some ⟨n, 0, none⟩) 3 3) [1, 2, 3] := by subst hn; exact Sl.lit [1, 2, 3] rfl rfl (by omega)
theorem lit2 (w : World) (n : Nat) (hn : n = w.heap.size) : Sl .u8 (w.alloc (.cells #[.int .u8 1, .int .u8 2] 5)) (.slice (some ⟨n, 0, none⟩) 2 2) [1, 2] := by subst hn; exact Sl.lit [1, 2] rfl rfl (by omega)
theorem lit1 (w : World) (n : Nat) (hn : n = w.heap.size) : Sl .i64 (w.alloc (.cells #[.int .i64 2] 3)) (.slice (some ⟨n, 0, none⟩) 1 1) [2] := by subst hn; exact Sl.lit [2] rfl rfl (by omega)

theorem do_b (kind cap : Int) (v dv : Value) (L : List Pf) (A B : ByteArray) (z : List Int) (w : World) (h : Fl w v L) (hdv : Sl .u8 w dv z) (hz : z.length ≤ 1000) (hA : A.size ≤ maxLen) (hBs : B.size ≤ maxLen) (hf : Fits L) (M : List Pf) (r : Int) (hr : K.doing kind cap L A B z = (M, r)) :
    Calls Try.prog 25 #[.agg #[.int .i64 cap, v], .agg #[.int .i64 kind, .string A, .string B, dv]] w fun e w' => ∃ v', e = .returned (.tuple #[.agg #[.int .i64 cap, v'], .int .i64 r]) ∧ Fl w' v' M ∧ Below w.heap.size w w' := by
  have := do_any kind cap v dv L A B z w h hdv hz hA hBs hf
  rw [hr] at this
  exact this
theorem crash_b (cap : Int) (v pv : Value) (L : List Pf) (ps : List Int) (w : World) (h : Fl w v L) (hp : Sl .i64 w pv ps) (hf : Fits L) (M : List Pf) (hr : (if K.may cap L = true then K.crash L ps else L) = M) :
    Calls Try.prog 27 #[.agg #[.int .i64 cap, v], pv] w fun e w' => ∃ v', e = .returned (.agg #[.int .i64 cap, v']) ∧ Fl w' v' M ∧ Below w.heap.size w w' := by
  rw [← hr]
  exact crash_any cap v pv L ps w h hp hf
theorem read_b3 (cap : Int) (v : Value) (L : List Pf) (s : ByteArray) (w : World) (h : Fl w v L) (hf : Fits L) (hs : s.size ≤ maxLen) (z : List Int) (r : Int) (hr : K.read cap L s = (z, r)) :
    Calls Try.prog 12 #[.agg #[.int .i64 cap, v], .string s] w fun e w' => ∃ v', e = .returned (.tuple #[v', .int .i64 r]) ∧ Sl .u8 w' v' z ∧ Below w.heap.size w w' := by
  have := readd_any cap v L s w h hf hs
  rw [hr] at this
  exact this
theorem used_b3 (cap : Int) (v : Value) (L : List Pf) (w : World) (h : Fl w v L) (hf : Fits L) (r : Int) (hr : ((if K.may cap L = true then K.sum L else 0 : Nat) : Int) = r) :
    Calls Try.prog 19 #[.agg #[.int .i64 cap, v]] w fun e w' => e = .returned (.int .i64 r) ∧ Below w.heap.size w w' := by
  rw [← hr]
  exact used2_any cap v L w h hf

/-- A disk's two cells, stored anew. -/
theorem box_set {w : World} {N : Nat} {x0 x1 : Value} (u0 u1 : Value) (h0 : w.cell? ⟨N, 0, none⟩ = some x0) (h1 : w.cell? ⟨N, 1, none⟩ = some x1) :
    ((w.setCell ⟨N, 0, none⟩ u0).setCell ⟨N, 1, none⟩ u1).cell? ⟨N, 0, none⟩ = some u0 ∧ ((w.setCell ⟨N, 0, none⟩ u0).setCell ⟨N, 1, none⟩ u1).cell? ⟨N, 1, none⟩ = some u1 := by
  constructor
  · rw [World.cell?_setCell_other _ _ _ _ (by simp)]
    exact World.cell?_setCell_same _ _ _ h0
  · refine World.cell?_setCell_same (u := x1) _ _ _ ?_
    rw [World.cell?_setCell_other _ _ _ _ (by simp)]
    exact h1

set_option maxHeartbeats 4000000 in
theorem awake3_any (w : World) : Calls Try.prog 10 #[] w fun e w' => e = .returned (.bool true) ∧ Below w.heap.size w w' := by
  have hab : X.ab.size ≤ maxLen := by unfold maxLen; decide
  have hb : X.b.size ≤ maxLen := by unfold maxLen; decide
  have he : X.e.size ≤ maxLen := by unfold maxLen; decide
  have h12 : decide (([1, 2] : List Int) = [1, 2]) = true := by decide
  have hsm : (decide ((5 : Int) = 5) && Pf.eqs X.L X.L) = true := by simp [Pf.eqs_refl]
  have hus : ((if K.may 5 X.L = true then K.sum X.L else 0 : Nat) : Int) = 3 := by rw [X.used]; rfl
  go_enter Try.func10, Try.ntmps10
  go_wp2_with fail
  refine (new_any 5 _ _ X.new).mono ?_
  rintro e w1 ⟨rfl, B1⟩
  rw [if_pos rfl]
  have d0 : ((w1.alloc (.cells #[.int .i64 5, .slice none 0 0] 24)).alloc (.cells #[.int .u8 1, .int .u8 2, .int .u8 3] 5)).cell? ⟨w1.heap.size, 0, none⟩ = some (.int .i64 5) := by simp [go_sem]
  have d1 : ((w1.alloc (.cells #[.int .i64 5, .slice none 0 0] 24)).alloc (.cells #[.int .u8 1, .int .u8 2, .int .u8 3] 5)).cell? ⟨w1.heap.size, 1, none⟩ = some (.slice none 0 0) := by simp [go_sem]
  have d2 : ∀ k, ((w1.alloc (.cells #[.int .i64 5, .slice none 0 0] 24)).alloc (.cells #[.int .u8 1, .int .u8 2, .int .u8 3] 5)).frozen? ⟨w1.heap.size, k, none⟩ = false := fun k => by simp [go_sem]
  have BA : Below w1.heap.size w1 ((w1.alloc (.cells #[.int .i64 5, .slice none 0 0] 24)).alloc (.cells #[.int .u8 1, .int .u8 2, .int .u8 3] 5)) := (below_alloc _ _).alloc (by simp) _
  go_wp2_with fail
  refine (do_b 0 5 _ _ [] X.ab X.e [1, 2, 3] _ (Fl.nil _) (lit3 _ _ (by simp)) (by simp) hab he ⟨by simp, by simp⟩ _ _ X.do1).mono ?_
  rintro e w2 ⟨v2, rfl, F2, B2⟩
  obtain ⟨a2, c2, rfl, -⟩ := id F2
  have x0 := cell_keep d0 B2
  have x1 := cell_keep d1 B2
  have x2 := frozen_keep (d2 0) B2 (World.block_lt_of_cell? _ _ d0)
  have x3 := frozen_keep (d2 1) B2 (World.block_lt_of_cell? _ _ d1)
  obtain ⟨W2, hW2⟩ : ∃ W, W = (w2.setCell ⟨w1.heap.size, 0, none⟩ (.int .i64 5)).setCell ⟨w1.heap.size, 1, none⟩ (.slice a2 X.L.length c2) := ⟨_, rfl⟩
  have y := box_set (.int .i64 5) (.slice a2 X.L.length c2) x0 x1
  have FW := F2.set2 x0 x1 (.int .i64 5) (.slice a2 X.L.length c2)
  have BW : Below w.heap.size w W2 := by rw [hW2]; exact ((below_trans' B1 (below_trans' BA B2)).setCell (by simpa using B1.size) _).setCell (by simpa using B1.size) _
  rw [← hW2] at y FW
  obtain ⟨y0, y1⟩ := y
  have HW2 := hide hW2
  have z0 := cell_keep y0 (below_alloc W2 (.cells #[.int .u8 1, .int .u8 2, .int .u8 3] 5))
  have z1 := cell_keep y1 (below_alloc W2 (.cells #[.int .u8 1, .int .u8 2, .int .u8 3] 5))
  have hzz := World.block_lt_of_cell? _ _ y0
  have Fz := FW.below (below_alloc W2 (.cells #[.int .u8 1, .int .u8 2, .int .u8 3] 5))
  clear hW2 d0 d1 d2 BA F2 B2
  go_wp2_with fail
  rw [← unhide HW2]
  refine (do_b 0 5 _ _ X.L X.b X.e [1, 2, 3] _ Fz (lit3 _ _ (by rw [unhide HW2]; simp)) (by simp) hb he X.fitsL _ _ X.do2).mono ?_
  rintro e w3 ⟨v3, rfl, F3, B3⟩
  obtain ⟨a3, c3, rfl, -⟩ := id F3
  have p0 := cell_keep z0 B3
  have p1 := cell_keep z1 B3
  have Fd := Fz.below B3
  have BW3 := below_trans' BW (below_trans' (below_alloc W2 (.cells #[.int .u8 1, .int .u8 2, .int .u8 3] 5)) B3)
  have hp0 : w1.heap.size < w3.heap.size := World.block_lt_of_cell? _ _ p0
  obtain ⟨W3, hW3⟩ : ∃ W, W = (w3.alloc (.cells #[.int .i64 5, .slice a3 X.L.length c3] 24)).alloc (.cells #[.int .i64 2] 3) := ⟨_, rfl⟩
  have BX : Below w3.heap.size w3 W3 := by rw [hW3]; exact (below_alloc _ _).alloc (by simp) _
  have q0 : W3.cell? ⟨w3.heap.size, 0, none⟩ = some (.int .i64 5) := by rw [hW3]; simp [go_sem]
  have q1 : W3.cell? ⟨w3.heap.size, 1, none⟩ = some (.slice a3 X.L.length c3) := by rw [hW3]; simp [go_sem]
  have Pk : Sl .i64 W3 (.slice (some ⟨w3.heap.size + 1, 0, none⟩) 1 1) [2] := by rw [hW3]; exact lit1 _ _ (by simp)
  have HW3 := hide hW3
  clear hW3 z0 z1 y0 y1 x0 x1 x2 x3 Fz FW
  go_wp2_with fail
  rw [← unhide HW3]
  refine (crash_b 5 _ _ X.L [2] _ (Fd.below BX) Pk X.fitsL _ X.crash).mono ?_
  rintro e w4 ⟨v4, rfl, F4, B4⟩
  obtain ⟨a4, c4, rfl, -⟩ := id F4
  have r0 := cell_keep (cell_keep p0 BX) B4
  have r1 := cell_keep (cell_keep p1 BX) B4
  have s0 := cell_keep q0 B4
  have s1 := cell_keep q1 B4
  have BW4 := below_trans' BW3 (below_trans' BX B4)
  have Fd4 := (Fd.below BX).below B4
  have Fx4 := (F3.below BX).below B4
  have hr0 : w1.heap.size < w4.heap.size := World.block_lt_of_cell? _ _ r0
  have hs0 : w3.heap.size < w4.heap.size := World.block_lt_of_cell? _ _ s0
  obtain ⟨W4, hW4⟩ : ∃ W, W = w4.alloc (.cells #[.int .i64 5, .slice a4 X.M.length c4] 24) := ⟨_, rfl⟩
  have BC : Below w4.heap.size w4 W4 := by rw [hW4]; exact below_alloc _ _
  have t0 : W4.cell? ⟨w4.heap.size, 0, none⟩ = some (.int .i64 5) := by rw [hW4]; simp [go_sem]
  have t1 : W4.cell? ⟨w4.heap.size, 1, none⟩ = some (.slice a4 X.M.length c4) := by rw [hW4]; simp [go_sem]
  have HW4 := hide hW4
  clear hW4 p0 p1 q0 q1 Pk F3 Fd B3 B4 BX
  go_wp2_with fail
  rw [← unhide HW4]
  refine (read_b3 5 _ X.M X.ab _ (F4.below BC) X.fitsM hab _ _ X.read).mono ?_
  rintro e w5 ⟨v5, rfl, S5, B5⟩
  obtain ⟨a5, c5, rfl, -⟩ := id S5
  have BD := below_trans' BC B5
  have r0 := cell_keep r0 BD
  have r1 := cell_keep r1 BD
  have s0 := cell_keep s0 BD
  have s1 := cell_keep s1 BD
  have t0 := cell_keep t0 B5
  have t1 := cell_keep t1 B5
  have Fc := F4.below BD
  have Fd5 := Fd4.below BD
  have Fx5 := Fx4.below BD
  have BW5 := below_trans' BW4 BD
  clear B5 BC F4 Fd4 Fx4 BW4 BD
  go_wp2_with fail
  refine (same_any 5 5 _ _ X.L X.L _ Fx5 Fd5 X.bysL X.bysL _ hsm).mono ?_
  rintro e w6 ⟨rfl, B6⟩
  have r0 := cell_keep r0 B6
  have r1 := cell_keep r1 B6
  have t0 := cell_keep t0 B6
  have t1 := cell_keep t1 B6
  have S6 := (S5.below B6).below (below_alloc w6 (.cells #[.int .u8 1, .int .u8 2] 5))
  have BL := below_alloc w6 (.cells #[.int .u8 1, .int .u8 2] 5)
  have Fc := (Fc.below B6).below BL
  have Fd6 := (Fd5.below B6).below BL
  have BW6 := below_trans' (below_trans' BW5 B6) BL
  clear S5 B6 Fd5 Fx5 s0 s1
  go_wp2_with fail
  refine (bytes_b _ _ _ _ _ S6 (lit2 _ _ rfl) _ h12).mono ?_
  rintro e w7 ⟨rfl, B7⟩
  have r0 := cell_keep (cell_keep r0 BL) B7
  have r1 := cell_keep (cell_keep r1 BL) B7
  have t0 := cell_keep (cell_keep t0 BL) B7
  have t1 := cell_keep (cell_keep t1 BL) B7
  have Fc := Fc.below B7
  have Fd7 := Fd6.below B7
  have BW7 := below_trans' BW6 B7
  clear S6 BL B7 Fd6
  go_wp2_with fail
  refine (find_b 5 _ X.M X.ab _ Fc X.fitsM hab _ X.find).mono ?_
  rintro e w8 ⟨rfl, B8⟩
  have r0 := cell_keep r0 B8
  have r1 := cell_keep r1 B8
  have Fd8 := Fd7.below B8
  have BW8 := below_trans' BW7 B8
  clear t0 t1 Fc B8 Fd7
  go_wp2_with fail
  refine (used_b3 5 _ X.L _ Fd8 X.fitsL _ hus).mono ?_
  rintro e w9 ⟨rfl, B9⟩
  have r0 := cell_keep r0 B9
  have r1 := cell_keep r1 B9
  have Fd9 := Fd8.below B9
  have BW9 := below_trans' BW8 B9
  clear B9 Fd8
  go_wp2_with fail
  refine (may_b 5 _ X.L _ Fd9 X.fitsL _ X.may).mono ?_
  rintro e w10 ⟨rfl, B10⟩
  go_wp2
  go_ret
  exact ⟨rfl, below_trans' BW9 B10⟩
end Go.Proofs.Ytnhhmohicjgpgaa
