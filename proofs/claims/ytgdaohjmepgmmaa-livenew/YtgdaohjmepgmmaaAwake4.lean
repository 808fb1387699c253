/-
  Contracts with their answers named, as the statements' walks take them; the chapter's example holds: the contract of the statements' own 'awake' (live).
-/
import Derived.Test.YtgdaohjmepgmmaaUnpack4
import Derived.Test.YtgdaohjmepgmmaaKill4
namespace Go.Proofs.Ytgdaohjmepgmmaa
open Go.RowKit

theorem kill_b (v : Value) (l : List Bool) (i : Int) (w : World) (h : Gl .bool w v l) (hll : l.length ≤ 4294967296) (r : Bool) (m : List Bool) (hr : L.lives l i = r) (hm : L.kill l i = m) :
    Calls Try.prog 12 #[v, .int .i64 i] w fun e w' => ∃ v', e = .returned (.tuple #[v', .bool r]) ∧ Gl .bool w' v' m ∧ Below w.heap.size w w' := by
  subst hr hm
  exact (kill_any v l i w h hll).mono fun e w' ⟨v', h1, h2, h3⟩ => ⟨v', h1, Gl.owned h2, h3⟩
theorem new_b (n : Int) (w : World) (m : List Bool) (hm : L.new n = m) : Calls Try.prog 17 #[.int .i64 n] w fun e w' => ∃ v', e = .returned v' ∧ Gl .bool w' v' m ∧ Below w.heap.size w w' := by
  subst hm
  exact (new_any n w).mono fun e w' ⟨v', h1, h2, h3⟩ => ⟨v', h1, Gl.owned h2, h3⟩
theorem and_b (va vb : Value) (a b : List Bool) (w : World) (ha : Gl .bool w va a) (hb : Gl .bool w vb b) (hll : a.length = b.length → a.length ≤ 4294967296) (m : List Bool) (hm : L.both a b = m) : Calls Try.prog 15 #[va, vb] w fun e w' => ∃ v', e = .returned v' ∧ Gl .bool w' v' m ∧ Below w.heap.size w w' := by
  subst hm
  exact (and_any va vb a b w ha hb hll).mono fun e w' ⟨v', h1, h2, h3⟩ => ⟨v', h1, Gl.owned h2, h3⟩
theorem less_b (va vb : Value) (a b : List Bool) (w : World) (ha : Gl .bool w va a) (hb : Gl .bool w vb b) (r : Bool) (hr : L.less a b = r) : Calls Try.prog 23 #[va, vb] w fun e w' => e = .returned (.bool r) ∧ Below w.heap.size w w' := by
  subst hr
  exact (less_any va vb a b w ha hb).mono fun e w' ⟨h1, n, h2⟩ => ⟨h1, by rw [h2]; exact below_dr (Below.refl _ _) n⟩
theorem bools_b (va vb : Value) (a b : List Bool) (w : World) (ha : Gl .bool w va a) (hb : Gl .bool w vb b) (r : Bool) (hr : decide (a = b) = r) : Calls Try.prog 14 #[va, vb] w fun e w' => e = .returned (.bool r) ∧ Below w.heap.size w w' := by
  subst hr
  exact (bools_any va vb a b w ha hb).mono fun e w' ⟨h1, n, h2⟩ => ⟨h1, by rw [h2]; exact below_dr (Below.refl _ _) n⟩
theorem may_b (v : Value) (l : List Bool) (w : World) (h : Gl .bool w v l) (r : Bool) (hr : decide (l.length ≤ 64) = r) : Calls Try.prog 19 #[v] w fun e w' => e = .returned (.bool r) ∧ Below w.heap.size w w' :=
  (may_any v l w h r hr).mono fun e w' ⟨h1, h2⟩ => ⟨h1, by rw [h2]; exact Below.refl _ _⟩
theorem count_b (v : Value) (l : List Bool) (w : World) (h : Gl .bool w v l) (n : Int) (hn : (L.count l : Int) = n) : Calls Try.prog 21 #[v] w fun e w' => e = .returned (.int .i64 n) ∧ Below w.heap.size w w' := by
  subst hn
  exact (count_any v l w h).mono fun e w' ⟨h1, h2⟩ => ⟨h1, by rw [h2]; exact Below.refl _ _⟩
theorem pack_b (v : Value) (l : List Bool) (w : World) (h : Gl .bool w v l) (x : List Int) (hx : L.pack l = x) : Calls Try.prog 28 #[v] w fun e w' => ∃ v', e = .returned v' ∧ Sl .u8 w' v' x ∧ Below w.heap.size w w' := by
  subst hx
  exact (pack_any v l w h).mono fun e w' ⟨v', h1, h2, h3⟩ => ⟨v', h1, Sl.owned h2, h3⟩
theorem unpack_b (v : Value) (b : List Int) (w : World) (h : Sl .u8 w v b) (hb : V.Byt b) (x : List Bool) (n : Int) (hx : L.unpack b = (x, n)) : Calls Try.prog 25 #[v] w fun e w' => ∃ v', e = .returned (.tuple #[v', .int .i64 n]) ∧ Gl .bool w' v' x ∧ Below w.heap.size w w' := by
  refine (unpack_any v b w h hb).mono fun e w' h => ?_
  rw [hx] at h
  obtain ⟨v', h1, h2, h3⟩ := h
  exact ⟨v', h1, Gl.owned h2, h3⟩

theorem ex_new : L.new 3 = [true, true, true] := by decide
theorem ex_lives : L.lives [true, true, true] 1 = true := by decide
theorem ex_kill : L.kill [true, true, true] 1 = [true, false, true] := by decide
theorem ex_pack : L.pack [true, false, true] = [3, 5] := by decide +kernel
theorem ex_unpack : L.unpack [3, 5] = ([true, false, true], 0) := by
  rw [← ex_pack]
  exact L.unpack_pack _ (by decide)
theorem ex_both : L.both [true, false, true] [true, false, true] = [true, false, true] := by decide
theorem ex_less : L.less [true, false, true] [true, true, true] = true := by decide
theorem ex_count : (L.count [true, false, true] : Int) = 2 := by decide

set_option maxHeartbeats 1000000 in
theorem awake4_any (w : World) : Calls Try.prog 10 #[] w fun e w' => e = .returned (.bool true) ∧ Below w.heap.size w w' := by
  go_enter Try.func10, Try.ntmps10
  go_wp2_with fail
  refine (new_b 3 _ _ ex_new).mono ?_
  rintro e w1 ⟨v1, rfl, S1, B1⟩
  go_wp2_with fail
  refine (kill_b _ [true, true, true] 1 _ S1 (by decide) _ _ ex_lives ex_kill).mono ?_
  rintro e w2 ⟨v2, rfl, S2, hb2⟩
  have B2 := below_trans' B1 hb2
  clear S1 B1 hb2
  go_wp2_with fail
  refine (unpack_b _ [3, 5] _ (Sl.lit (n := 2) [3, 5] rfl rfl (by omega)) (byt_of rfl) _ _ ex_unpack).mono ?_
  rintro e w3 ⟨v3, rfl, T3, hb3⟩
  have B3 := below_trans' (below_all B2 _) hb3
  have S3 := (S2.below (below_alloc _ _)).below hb3
  clear S2 B2 hb3
  go_wp2_with fail
  refine (pack_b _ _ _ S3 _ ex_pack).mono ?_
  rintro e w4 ⟨v4, rfl, P4, hb4⟩
  have B4 := below_trans' B3 hb4
  have S4 := S3.below hb4
  have T4 := T3.below hb4
  clear S3 B3 T3 hb4
  go_wp2_with fail
  refine (bytes_b _ _ [3, 5] [3, 5] _ (P4.below (below_alloc _ _)) (Sl.lit (n := 2) [3, 5] rfl rfl (by omega)) true (by decide)).mono ?_
  rintro e w5 ⟨rfl, hb5⟩
  have B5 := below_trans' (below_all B4 _) hb5
  have S5 := (S4.below (below_alloc _ _)).below hb5
  have T5 := (T4.below (below_alloc _ _)).below hb5
  clear B4 S4 T4 P4 hb5
  go_wp2_with fail
  refine (bools_b _ _ [true, false, true] [true, false, true] _ T5 S5 true (by decide)).mono ?_
  rintro e w6 ⟨rfl, hb6⟩
  have B6 := below_trans' B5 hb6
  have S6 := S5.below hb6
  clear B5 S5 T5 hb6
  go_wp2_with fail
  refine (count_b _ _ _ S6 _ ex_count).mono ?_
  rintro e w7 ⟨rfl, hb7⟩
  have B7 := below_trans' B6 hb7
  have S7 := S6.below hb7
  clear B6 S6 hb7
  go_wp2_with fail
  refine (may_b _ _ _ S7 true (by decide)).mono ?_
  rintro e w8 ⟨rfl, hb8⟩
  have B8 := below_trans' B7 hb8
  have S8 := S7.below hb8
  clear B7 S7 hb8
  go_wp2_with fail
  refine (new_b 3 _ _ ex_new).mono ?_
  rintro e w9 ⟨v9, rfl, N9, hb9⟩
  have B9 := below_trans' B8 hb9
  have S9 := S8.below hb9
  clear B8 S8 hb9
  go_wp2_with fail
  refine (less_b _ _ _ _ _ S9 N9 _ ex_less).mono ?_
  rintro e w10 ⟨rfl, hb10⟩
  have B10 := below_trans' B9 hb10
  have S10 := S9.below hb10
  clear B9 S9 N9 hb10
  go_wp2_with fail
  refine (and_b _ _ _ _ _ S10 S10 (fun _ => by decide) _ ex_both).mono ?_
  rintro e w11 ⟨v11, rfl, A11, hb11⟩
  have B11 := below_trans' B10 hb11
  obtain ⟨a11, c11, rfl, -⟩ := id A11
  clear B10 S10 A11 hb11
  go_wp2
  go_ret
  exact ⟨rfl, B11⟩
end Go.Proofs.Ytgdaohjmepgmmaa
