/-
  The contracts of cmp.Compare at numbers and at texts, of cmp.Or at two numbers, of compare and Before, and of the document's own Before.
-/
import Derived.Test.YtonhehhmnobciaaKBase8
import Derived.Test.YtonhehhmnobciaaSearch7
import Derived.Sort.Grow
import Derived.Deep.RegionHeld3
namespace Go.Proofs.Ytonhehhmnobciaa
set_option maxRecDepth 100000
open Go.RowKit Go.Sort

namespace S
def ci (x y : Int) : Int := if x < y then -1 else if y < x then 1 else 0
def cs (x y : ByteArray) : Int := if K.lt x y = true then -1 else if K.lt y x = true then 1 else 0
def cor (x y : Int) : Int := if x = 0 then y else x
/-- What compare tells of two cards. -/
def cmp (a b : Cd) : Int := cor (ci a.key b.key) (cs a.id b.id)

theorem cmp_before (a b : Cd) : decide (cmp a b < 0) = before a b := by
  unfold cmp cor ci cs before
  by_cases h1 : a.key < b.key
  · simp [h1]
  · by_cases h2 : b.key < a.key
    · have h3 : a.key ≠ b.key := by omega
      simp [h1, h2, h3]
    · have h3 : a.key = b.key := by omega
      simp only [h3, decide_true, Bool.true_and]
      simp only [Int.lt_irrefl, if_false, if_true, decide_false, Bool.false_or]
      cases h4 : K.lt a.id b.id with
      | true => simp
      | false =>
        cases h5 : K.lt b.id a.id <;> simp
end S

set_option maxHeartbeats 1000000 in
theorem cmpI_any (x y : Int) (w : World) : Calls Try.prog 71 #[.int .i64 x, .int .i64 y] w fun e w' => e = .returned (.int .i64 (S.ci x y)) ∧ w' = w := by
  unfold S.ci
  by_cases h1 : x < y
  · rw [if_pos h1]
    go_enter Try.func71, Try.ntmps71
    go_wp2
    go_ret
    exact ⟨rfl, rfl⟩
  · rw [if_neg h1]
    by_cases h2 : y < x
    · rw [if_pos h2]
      go_enter Try.func71, Try.ntmps71
      go_wp2
      go_ret
      exact ⟨rfl, rfl⟩
    · rw [if_neg h2]
      go_enter Try.func71, Try.ntmps71
      go_wp2
      go_ret
      exact ⟨rfl, rfl⟩

set_option maxHeartbeats 1000000 in
theorem cmpS_any (x y : ByteArray) (w : World) : Calls Try.prog 72 #[.string x, .string y] w fun e w' => e = .returned (.int .i64 (S.cs x y)) ∧ w' = w := by
  unfold S.cs
  cases h1 : K.lt x y with
  | true =>
    rw [if_pos rfl]
    have hl : Op.bytesLess x.toList y.toList = true := h1
    go_enter Try.func72, Try.ntmps72
    go_wp2_with (go_at_call 116; refine (cnan_any _ _).mono ?_; rintro e w' ⟨rfl, rfl⟩)
    go_ret
    exact ⟨rfl, rfl⟩
  | false =>
    rw [if_neg (by simp)]
    have hl : Op.bytesLess x.toList y.toList = false := h1
    cases h2 : K.lt y x with
    | true =>
      rw [if_pos rfl]
      have hq : (x.toList == y.toList) = false := by rw [K.eq_to]; simpa using Ne.symm (K.lt_ne h2)
      go_enter Try.func72, Try.ntmps72
      go_wp2_with (go_at_call 116; refine (cnan_any _ _).mono ?_; rintro e w' ⟨rfl, rfl⟩)
      go_ret
      exact ⟨rfl, rfl⟩
    | false =>
      rw [if_neg (by simp)]
      have hq : (x.toList == y.toList) = true := by rw [K.eq_to]; simpa using K.lt_tri h1 h2
      go_enter Try.func72, Try.ntmps72
      go_wp2_with (go_at_call 116; refine (cnan_any _ _).mono ?_; rintro e w' ⟨rfl, rfl⟩)
      go_ret
      exact ⟨rfl, rfl⟩

set_option maxHeartbeats 1000000 in
theorem cor_any (b : Nat) (x y : Int) (w : World) (c0 : w.cell? ⟨b, 0, none⟩ = some (.int .i64 x)) (c1 : w.cell? ⟨b, 1, none⟩ = some (.int .i64 y)) :
    Calls Try.prog 70 #[.slice (some ⟨b, 0, none⟩) 2 2] w fun e w' => e = .returned (.int .i64 (S.cor x y)) ∧ w' = w := by
  go_enter Try.func70, Try.ntmps70
  go_wp2
  go_loop [8] (fun i => (i = .int .i64 0) ∨ (i = .int .i64 1 ∧ x = 0) ∨ (i = .int .i64 2 ∧ x = 0 ∧ y = 0)) (fun i => 2 - (intOf i).toNat)
  case atStart => exact .inl rfl
  case round =>
    rcases hrel with rfl | ⟨rfl, hx⟩ | ⟨rfl, hx, hy⟩
    · by_cases h1 : x = 0
      · subst h1
        go_wp2
        go_round
        case rel => simp
        case measure => simp [intOf]
      · have h1' : (x == 0) = false := by simpa using h1
        go_wp2
        go_ret
        exact ⟨by rw [show S.cor x y = x from if_neg h1]; rfl, rfl⟩
    · have HX := hide hx
      by_cases h1 : y = 0
      · subst h1
        go_wp2
        go_round
        case rel => (have := unhide HX; simp [this])
        case measure => simp [intOf]
      · have h1' : (y == 0) = false := by simpa using h1
        go_wp2
        go_ret
        exact ⟨by rw [show S.cor 0 y = y from if_pos rfl]; rfl, rfl⟩
    · go_wp2
      go_ret
      exact ⟨rfl, rfl⟩

/-- A world with new blocks behind it, and draws. -/
def Grew (w w' : World) : Prop := ∃ q os, w' = grow (w.drewN q) os
theorem Grew.below {w w' : World} (h : Grew w w') : Below w.heap.size w w' := by
  obtain ⟨q, os, rfl⟩ := h
  refine ⟨rfl, rfl, rfl, by simp [grow, World.drewN], fun k hk => ?_⟩
  rw [heap_grow_old _ _ (by simpa using hk)]
  rfl
theorem Grew.refl (w : World) : Grew w w := ⟨0, #[], by simp [grow, World.drewN]⟩
theorem Grew.alloc {w w' : World} (h : Grew w w') (o : Obj) : Grew w (w'.alloc o) := by
  obtain ⟨q, os, rfl⟩ := h
  exact ⟨q, os ++ #[o], by rw [alloc_eq_grow, grow_grow]⟩
theorem Grew.drew {w w' : World} (h : Grew w w') : Grew w w'.drew := by
  obtain ⟨q, os, rfl⟩ := h
  exact ⟨q + 1, os, by rw [drew_grow]; rfl⟩

set_option maxHeartbeats 1000000 in
theorem compare_any (a b : Cd) (x y : Option Addr) (n c m d : Nat) (w : World) :
    Calls Try.prog 31 #[.agg #[.string a.id, .int .i64 a.key, .slice x n c], .agg #[.string b.id, .int .i64 b.key, .slice y m d]] w fun e w' => e = .returned (.int .i64 (S.cmp a b)) ∧ Grew w w' := by
  obtain ⟨W, hW⟩ : ∃ W, W = (w.alloc (.cells #[.string a.id, .int .i64 a.key, .slice x n c] 25)).alloc (.cells #[.string b.id, .int .i64 b.key, .slice y m d] 25) := ⟨_, rfl⟩
  have GW : Grew w W := by rw [hW]; exact ((Grew.refl w).alloc _).alloc _
  have y0 : W.cell? ⟨w.heap.size, 0, none⟩ = some (.string a.id) := by rw [hW]; simp [go_sem]
  have y1 : W.cell? ⟨w.heap.size, 1, none⟩ = some (.int .i64 a.key) := by rw [hW]; simp [go_sem]
  have z0 : W.cell? ⟨w.heap.size + 1, 0, none⟩ = some (.string b.id) := by rw [hW]; simp [go_sem]
  have z1 : W.cell? ⟨w.heap.size + 1, 1, none⟩ = some (.int .i64 b.key) := by rw [hW]; simp [go_sem]
  obtain ⟨r1, hr1⟩ : ∃ r, S.ci a.key b.key = r := ⟨_, rfl⟩
  obtain ⟨r2, hr2⟩ : ∃ r, S.cs a.id b.id = r := ⟨_, rfl⟩
  obtain ⟨r3, hr3⟩ : ∃ r, S.cor r1 r2 = r := ⟨_, rfl⟩
  have HR : Hid (S.cmp a b = r3) := by show _ = _; rw [S.cmp, hr1, hr2, hr3]
  have HW := hide hW
  have k1 := fun w => cmpI_any a.key b.key w
  have k2 := fun w => cmpS_any a.id b.id w
  have k3 := fun b w => cor_any b r1 r2 w
  rw [hr1] at k1
  rw [hr2] at k2
  rw [hr3] at k3
  clear hW hr1 hr2 hr3
  go_enter Try.func31, Try.ntmps31
  go_wp2_with fail
  rw [← unhide HW]
  go_region_held3 (fun w' => w'.cell? ⟨w.heap.size, 0, none⟩ = some (.string a.id) ∧ w'.cell? ⟨w.heap.size, 1, none⟩ = some (.int .i64 a.key) ∧ w'.cell? ⟨w.heap.size + 1, 0, none⟩ = some (.string b.id) ∧ w'.cell? ⟨w.heap.size + 1, 1, none⟩ = some (.int .i64 b.key) ∧ Grew w w')
    (first
      | (go_split_ands; exact ⟨y0, y1, z0, z1, GW.drew⟩)
      | (go_split_ands; exact ⟨cell_keep y0 (below_alloc W _).drew, cell_keep y1 (below_alloc W _).drew, cell_keep z0 (below_alloc W _).drew, cell_keep z1 (below_alloc W _).drew, (GW.alloc _).drew⟩)
      | go_keep)
    (first
      | (go_at_call 71; refine (k1 _).mono ?_; rintro e w1 ⟨rfl, rfl⟩)
      | (go_at_call 72; refine (k2 _).mono ?_; rintro e w1 ⟨rfl, rfl⟩)
      | (go_at_call 70; refine (k3 _ _ (by simp) (by simp)).mono ?_; rintro e w1 ⟨rfl, rfl⟩))
  go_wp2
  go_ret
  exact ⟨by rw [unhide HR]; rfl, (GW.alloc _).drew⟩
end Go.Proofs.Ytonhehhmnobciaa
