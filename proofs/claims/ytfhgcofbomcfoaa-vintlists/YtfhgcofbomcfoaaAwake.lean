/-
  The chapter's examples hold: the contract of the statements' own 'awake'.
-/
import Derived.Test.YtfhgcofbomcfoaaRead
import Derived.Test.YtfhgcofbomcfoaaSame
namespace Go.Proofs.Ytfhgcofbomcfoaa
open Go.RowKit

theorem byt_of {l : List Int} (h : l.all (fun c => decide (0 ≤ c ∧ c ≤ 255)) = true) : V.Byt l := fun c hc => by simpa using List.all_eq_true.1 h c hc

theorem ex_rise : V.riseA [3, 4, 9] = [3, 3, 0, 4] := by decide
theorem ex_riseE : V.riseE [3, 4, 9] = 0 := by decide
theorem ex_get : V.get [1, 172, 2, 0] 1 = (300, 3, 0) := by decide
theorem ex_read : V.read [3, 3, 0, 4] 0 = ([3, 4, 9], 4, 0) := by decide
theorem ex_put : V.putA 300 = [172, 2] := by decide

theorem below_all {w w1 : World} (h : Below w.heap.size w w1) (o : Obj) : Below w.heap.size w (w1.alloc o) := h.alloc h.size o
theorem below_dr {w w1 : World} (h : Below w.heap.size w w1) (n : Nat) : Below w.heap.size w (w1.drewN n) := ⟨h.os, h.tape, h.output, h.size, h.block⟩

theorem get_b (v : Value) (l : List Int) (x : Int) (w : World) (h : Sl .u8 w v l) (hb : V.Byt l) (r : Int × Int × Int) (hr : V.get l x = r) :
    Calls Try.prog 10 #[v, .int .i64 x] w fun e w' => e = .returned (.tuple #[.int .i64 r.1, .int .i64 r.2.1, .int .i64 r.2.2]) ∧ Below w.heap.size w w' :=
  (get_any v l x w h hb).mono fun e w' ⟨h1, h2⟩ => ⟨by rw [h1, hr], by rw [h2]; exact Below.refl _ _⟩

theorem bytes_b (va vb : Value) (xs ys : List Int) (w : World) (ha : Sl .u8 w va xs) (hb : Sl .u8 w vb ys) (r : Bool) (hr : decide (xs = ys) = r) :
    Calls Try.prog 12 #[va, vb] w fun e w' => e = .returned (.bool r) ∧ Below w.heap.size w w' :=
  (bytes_any va vb xs ys w ha hb).mono fun e w' ⟨h1, n, h2⟩ => ⟨by rw [h1, hr], by rw [h2]; exact below_dr (Below.refl _ _) n⟩

theorem ints_b (va vb : Value) (xs ys : List Int) (w : World) (ha : Sl .i64 w va xs) (hb : Sl .i64 w vb ys) (r : Bool) (hr : decide (xs = ys) = r) :
    Calls Try.prog 19 #[va, vb] w fun e w' => e = .returned (.bool r) ∧ Below w.heap.size w w' :=
  (ints_any va vb xs ys w ha hb).mono fun e w' ⟨h1, n, h2⟩ => ⟨by rw [h1, hr], by rw [h2]; exact below_dr (Below.refl _ _) n⟩

set_option maxHeartbeats 400000 in
theorem awake_any (w : World) : Calls Try.prog 9 #[] w fun e w' => e = .returned (.bool true) ∧ Below w.heap.size w w' := by
  go_enter Try.func9, Try.ntmps9
  go_wp2_with fail
  refine (rise_any _ [3, 4, 9] _ (Sl.lit (n := 3) [3, 4, 9] rfl rfl (by omega))).mono ?_
  rintro e w1 ⟨v1, rfl, hown1, hb1⟩
  rw [ex_rise] at hown1
  rw [ex_riseE]
  have B1 := below_trans' (below_alloc _ _) hb1
  have S1 := Sl.owned hown1
  clear hown1 hb1
  go_wp2_with fail
  refine (get_b _ [1, 172, 2, 0] 1 _ (Sl.lit (n := 4) [1, 172, 2, 0] rfl rfl (by omega)) (byt_of (by decide)) (300, 3, 0) ex_get).mono ?_
  rintro e w2 ⟨rfl, hb2⟩
  have B2 := below_trans' (below_all B1 _) hb2
  have S2 := (S1.below (below_alloc _ _)).below hb2
  clear S1 B1 hb2
  go_wp2_with fail
  refine (read_any _ [3, 3, 0, 4] 0 _ (Sl.lit (n := 4) [3, 3, 0, 4] rfl rfl (by omega)) (byt_of (by decide))).mono ?_
  rw [ex_read]
  rintro e w3 ⟨v3, rfl, hown3, hb3⟩
  have B3 := below_trans' (below_all B2 _) hb3
  have S3 := (S2.below (below_alloc _ _)).below hb3
  have T3 := Sl.owned hown3
  clear B2 S2 hb3 hown3
  go_wp2_with fail
  refine (put_any 300 _).mono ?_
  rintro e w4 ⟨v4, rfl, hown4, hb4⟩
  rw [ex_put] at hown4
  have B4 := below_trans' B3 hb4
  have S4 := S3.below hb4
  have T4 := T3.below hb4
  have P4 := Sl.owned hown4
  clear B3 S3 T3 hown4 hb4
  go_wp2_with fail
  refine (bytes_b _ _ [172, 2] [172, 2] _ (P4.below (below_alloc _ _)) (Sl.lit (n := 2) [172, 2] rfl rfl (by omega)) true (by decide)).mono ?_
  rintro e w5 ⟨rfl, hb5⟩
  have B5 := below_trans' (below_all B4 _) hb5
  have S5 := (S4.below (below_alloc _ _)).below hb5
  have T5 := (T4.below (below_alloc _ _)).below hb5
  clear B4 S4 T4 P4 hb5
  go_wp2_with fail
  refine (bytes_b _ _ [3, 3, 0, 4] [3, 3, 0, 4] _ (S5.below (below_alloc _ _)) (Sl.lit (n := 4) [3, 3, 0, 4] rfl rfl (by omega)) true (by decide)).mono ?_
  rintro e w6 ⟨rfl, hb6⟩
  have B6 := below_trans' (below_all B5 _) hb6
  have T6 := (T5.below (below_alloc _ _)).below hb6
  clear B5 S5 T5 hb6
  go_wp2_with fail
  refine (ints_b _ _ [3, 4, 9] [3, 4, 9] _ (T6.below (below_alloc _ _)) (Sl.lit (n := 3) [3, 4, 9] rfl rfl (by omega)) true (by decide)).mono ?_
  rintro e w7 ⟨rfl, hb7⟩
  have B7 := below_trans' (below_all B6 _) hb7
  clear B6 T6 hb7
  go_wp2
  go_ret
  exact ⟨rfl, B7⟩
end Go.Proofs.Ytfhgcofbomcfoaa
