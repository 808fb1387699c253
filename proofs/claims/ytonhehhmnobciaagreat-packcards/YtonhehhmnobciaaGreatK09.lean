/-
  Texts put together: Tail, Wrap, Open, Awake2.
-/
import Derived.Test.YtonhehhmnobciaaGreatK06
import Derived.Test.YtonhehhmnobciaaGreatK01
import Derived.Lib.Bytes
/-
  The contracts of a sum's four bytes, and of the library's Equal.
-/
namespace Go.Proofs.YtonhehhmnobciaaGreat
set_option maxRecDepth 100000
open Go.RowKit

theorem old_cells {W w1 : World} (hb : Below W.heap.size W w1) : (∀ b o, b < W.heap.size → w1.cell? ⟨b, o, none⟩ = W.cell? ⟨b, o, none⟩) ∧ (∀ b o, b < W.heap.size → w1.frozen? ⟨b, o, none⟩ = W.frozen? ⟨b, o, none⟩) :=
  ⟨fun b o h => hb.cell (p := ⟨b, o, none⟩) h, fun b o h => hb.frozen (p := ⟨b, o, none⟩) h⟩

set_option maxHeartbeats 400000 in
theorem tail_any (v : Value) (l : List Int) (w : World) (h : Sl .u8 w v l) (hb : V.Byt l) :
    Calls Tryz.prog 54 #[v] w fun e w' => e = .returned (.agg ((C.four (C.sum l)).map (Value.int .u8)).toArray) ∧ Below w.heap.size w w' := by
  go_enter Tryz.func54, Tryz.ntmps54
  go_wp2_with fail
  refine (sum_any _ l _ (h.below (below_alloc _ _)) hb).mono ?_
  rintro e w1 ⟨rfl, hb1⟩
  have hs := C.sum_lt l
  obtain ⟨s, hse⟩ : ∃ s, s = C.sum l := ⟨_, rfl⟩
  rw [← hse] at hs ⊢
  have HS := hide hse
  clear hse
  obtain ⟨hc, hf⟩ := old_cells hb1
  clear h
  go_wp2
  have hz : w.heap.size + 1 ≤ w1.heap.size := by have := hb1.size; simp at this; omega
  refine bodyPost_ret (v := .agg #[.int .u8 ((s : Int) % 256), .int .u8 ((s : Int) / 256 % 256), .int .u8 ((s : Int) / 65536 % 256), .int .u8 ((s : Int) / 16777216)]) ?_ rfl ⟨?_, ?_⟩
  · simp [results, Tryz.results54, go_sem, hc]
  · have e3 : (s : Int) / 16777216 = ((s / 16777216 % 256 : Nat) : Int) := by omega
    rw [e3, ← unhide HS]
    rfl
  · exact ((((below_trans' (below_alloc _ _) hb1).setCell (Nat.le_refl _) _).setCell (Nat.le_refl _) _).setCell (Nat.le_refl _) _).setCell (Nat.le_refl _) _

theorem tail_b (v : Value) (l : List Int) (w : World) (h : Sl .u8 w v l) (hb : V.Byt l) :
    Calls Tryz.prog 54 #[v] w fun e w' => ∃ t0 t1 t2 t3 : Int, Hid (C.four (C.sum l) = [t0, t1, t2, t3]) ∧ e = .returned (.agg #[.int .u8 t0, .int .u8 t1, .int .u8 t2, .int .u8 t3]) ∧ Below w.heap.size w w' :=
  (tail_any v l w h hb).mono fun _ _ ⟨h1, h2⟩ => ⟨_, _, _, _, rfl, h1, h2⟩

theorem Tryz.conv_str (w : World) (v : Value) (l : List Int) (h : Sl .u8 w v l) : (convert 33 9 v).run Tryz.prog w = .ok (.string (strOfNums l)) w := by
  obtain ⟨a, cap, rfl, hl, hm, hna, ho⟩ := h.open
  by_cases h0 : 0 < l.length
  · obtain ⟨b, off, rfl, -, hc⟩ := ho h0
    exact run_convert_bytes_arg w 33 5 Tryz.underlying33 Tryz.underlying5 b off _ cap l rfl hc 9 Tryz.underlying9
  · obtain rfl : l = [] := List.eq_nil_of_length_eq_zero (by omega)
    show (convert 33 9 (.slice a 0 cap)).run Tryz.prog w = _
    rw [run_convert_bytes_string w 33 9 5 a 0 cap Tryz.underlying33 Tryz.underlying5 Tryz.underlying9]
    cases a with
    | none => rfl
    | some x => simp [Conv.bytesToString, loadCells]; rfl

theorem nums_inj {xs ys : List Int} (bx : V.Byt xs) (hy : V.Byt ys) : ((strOfNums xs).toList == (strOfNums ys).toList) = decide (xs = ys) := by
  rw [Lib.strOfNums_toList, Lib.strOfNums_toList]
  by_cases h : xs = ys
  · subst h; simp
  · rw [decide_eq_false h, beq_eq_false_iff_ne]
    intro e
    apply h
    have h2 := congrArg (List.map fun u : UInt8 => (u.toNat : Int)) e
    have back : ∀ zs : List Int, V.Byt zs → (Lib.bytesOf zs).map (fun u : UInt8 => (u.toNat : Int)) = zs := by
      intro zs hz
      simp only [Lib.bytesOf, List.map_map]
      conv => rhs; rw [← List.map_id zs]
      apply List.map_congr_left
      intro n hn
      have := hz n hn
      simp
      omega
    rwa [back xs bx, back ys hy] at h2

set_option maxHeartbeats 400000 in
theorem equalB_any (va vb : Value) (xs ys : List Int) (w : World) (ha : Sl .u8 w va xs) (hb : Sl .u8 w vb ys) (bx : V.Byt xs) (hy : V.Byt ys) :
    Calls Tryz.prog 56 #[va, vb] w fun e w' => e = .returned (.bool (decide (xs = ys))) ∧ w' = w := by
  have c1 := Tryz.conv_str w va xs ha
  have c2 := Tryz.conv_str w vb ys hb
  go_enter Tryz.func56, Tryz.ntmps56
  go_wp2
  go_ret
  exact ⟨by rw [← nums_inj bx hy]; rfl, rfl⟩
end Go.Proofs.YtonhehhmnobciaaGreat

/-
  The contract of Wrap: the frame of whatever bytes, in new memory; nothing, if they are too many.
-/
namespace Go.Proofs.YtonhehhmnobciaaGreat
set_option maxRecDepth 100000
open Go.RowKit

set_option maxHeartbeats 400000 in
theorem wrap_any (kind : Int) (v : Value) (l : List Int) (w : World) (h : Sl .u8 w v l) (hb : V.Byt l) (hk : 0 ≤ kind ∧ kind ≤ 255) :
    Calls Tryz.prog 26 #[.int .u8 kind, v] w fun e w' => ∃ v', e = .returned v' ∧ w'.ownsRow w.heap.size 5 1 v' (F.wrap kind l).length ((F.wrap kind l).map (Value.int .u8)) ∧ Below w.heap.size w w' := by
  obtain ⟨i0, hi, hz0, hz1, hz2⟩ := info_parts Tryz.info5
  have hs := h
  obtain ⟨a, cap, rfl, hl, hm, hna, ho⟩ := h.open
  clear h ho hna
  by_cases h1 : l.length ≤ 65536
  · rw [F.wrap_in h1]
    go_enter Tryz.func26, Tryz.ntmps26
    go_wp2_with fail
    refine (put_any _ _).mono ?_
    rintro e w1 ⟨v1, rfl, hown1, hb1⟩
    rw [V.putA_in ⟨by omega, by omega⟩] at hown1
    have O1 := own_below (World.ownsRow_lit (base := w.heap.size) (size := 1) (e := 5) w #[.int .u8 70, .int .u8 kind] 2 (Nat.le_refl _) (by unfold maxLen; omega) rfl) hb1
    have B1 := below_trans' (below_alloc _ _) hb1
    have P1 := Sl.owned hown1
    have l5 := (V.put_len l.length).2
    clear hown1 hb1
    go_wp2_with (first
      | (at_builtin; refine append_all rfl (.tmp 11) (.tmp 14) 33 rfl Tryz.underlying33 hi hz0 hz1 hz2 rfl (B := w.heap.size) (w0 := w) (pre := [70, kind]) (zs := V.put l.length) rfl rfl P1 O1 B1 B1.size (by simp; omega) (by decide) ?_; intro v2 w2 hown2 hb2)
      | (at_builtin; refine append_all rfl (.tmp 16) (.tmp 17) 33 rfl Tryz.underlying33 hi hz0 hz1 hz2 rfl (pre := [70, kind] ++ V.put l.length) (zs := l) rfl rfl (hs.below hb2) hown2 hb2 hb2.size (by simp; omega) (by decide) ?_; intro v3 w3 hown3 hb3))
    have E3 := Sl.owned hown3
    refine (tail_b _ _ _ E3 (F.body_byt hk hb h1)).mono ?_
    rintro e w4 ⟨t0, t1, t2, t3, HT, rfl, hb4⟩
    have O4 := own_below hown3 hb4
    have B4 := hb3.trans (hb4.mono hb3.size)
    clear hown2 hb2 hown3 hb3 hb4 E3 O1 B1 P1
    go_wp2_with (at_builtin; refine append_all rfl (.tmp 21) (.tmp 22) 33 rfl Tryz.underlying33 hi hz0 hz1 hz2 rfl (B := w.heap.size) (w0 := w) (pre := [70, kind] ++ V.put l.length ++ l) (zs := [t0, t1, t2, t3]) rfl rfl (Sl.lit (n := 4) [t0, t1, t2, t3] rfl rfl (by omega)) (O4.alloc _) (below_all B4 _) (below_all B4 _).size (by simp; omega) (by decide) ?_; intro v5 w5 hown5 hb5)
    go_ret
    rw [← HT.out] at hown5
    exact ⟨_, rfl, hown5, hb5⟩
  · rw [F.wrap_out h1]
    go_enter Tryz.func26, Tryz.ntmps26
    go_wp2
    go_ret
    exact ⟨_, rfl, World.ownsRow_nil _ _ _ _, Below.refl _ _⟩
end Go.Proofs.YtonhehhmnobciaaGreat

/-
  The contract of Open: what is within a frame of that kind, in new memory, or why it is none.
-/
namespace Go.Proofs.YtonhehhmnobciaaGreat
set_option maxRecDepth 100000
open Go.RowKit

/-- How a call of Open ends whose answer is r. -/
def OpenEnd (w : World) (r : List Int × Int) (e : Ending) (w' : World) : Prop :=
  ∃ v', e = .returned (.tuple #[v', .int .i64 r.2]) ∧ w'.ownsRow w.heap.size 5 1 v' r.1.length (r.1.map (Value.int .u8)) ∧ Below w.heap.size w w'

theorem openEnd_err {w w' : World} {n : Int} (hb : Below w.heap.size w w') : OpenEnd w ([], n) (.returned (.tuple #[.slice none 0 0, .int .i64 n])) w' := ⟨_, rfl, World.ownsRow_nil _ _ _ _, hb⟩

set_option maxHeartbeats 400000 in
theorem open_short (v : Value) (l : List Int) (kind : Int) (w : World) (h : Sl .u8 w v l) (h2 : l.length < 2) : Calls Tryz.prog 27 #[v, .int .u8 kind] w (OpenEnd w ([], 5)) := by
  obtain ⟨a, cap, rfl, hl, hm, hna, ho⟩ := h.open
  clear h ho hna
  have h2' : decide ((l.length : Int) < 2) = true := by simp; omega
  go_enter Tryz.func27, Tryz.ntmps27
  go_wp2
  go_ret2
  exact openEnd_err (Below.refl _ _)

set_option maxHeartbeats 400000 in
theorem open_head (v : Value) (c0 c1 : Int) (r : List Int) (kind : Int) (w : World) (h : Sl .u8 w v (c0 :: c1 :: r)) (hh : ¬ (c0 = 70 ∧ c1 = kind)) : Calls Tryz.prog 27 #[v, .int .u8 kind] w (OpenEnd w ([], 5)) := by
  obtain ⟨a, cap, rfl, hl, hm, hna, ho⟩ := h.open
  obtain ⟨b, off, rfl, hbl, hc⟩ := ho (by simp)
  have k0 := hc 0 (by simp)
  have k1 := hc 1 (by simp)
  simp at k0 k1 hl
  clear h ho hna hc
  have h2' : decide (((c0 :: c1 :: r).length : Int) < 2) = false := by simp; omega
  have h3 : 2 ≤ ((c0 :: c1 :: r).length : Int) := by simp; omega
  generalize (c0 :: c1 :: r).length = L at *
  by_cases h70 : c0 = 70
  · have hk : (c1 != kind) = true := by simp; omega
    subst h70
    go_enter Tryz.func27, Tryz.ntmps27
    go_wp2
    go_ret2
    exact openEnd_err (Below.refl _ _)
  · have hk : (c0 != 70) = true := by simp; omega
    go_enter Tryz.func27, Tryz.ntmps27
    go_wp2
    go_ret2
    exact openEnd_err (Below.refl _ _)

theorem get_two {l : List Int} {c0 c1 : Int} {r : List Int} {n k : Nat} (hlr : l = c0 :: c1 :: r) (h : V.getH 5 r = some ((n : Int), k)) : V.get l 2 = ((n : Int), 2 + (k : Int), 0) :=
  get_some (p := 2) (by rw [hlr]; simp) (by rw [hlr]; exact h)
theorem get_two_none {l : List Int} {c0 c1 : Int} {r : List Int} (hlr : l = c0 :: c1 :: r) (h : V.getH 5 r = none) : V.get l 2 = (0, 0, 5) := get_none (p := 2) (by rw [hlr]; simp) (by rw [hlr]; exact h)

set_option maxHeartbeats 400000 in
theorem open_none (v : Value) (l r : List Int) (kind : Int) (w : World) (hlr : l = 70 :: kind :: r) (h : Sl .u8 w v l) (hb : V.Byt l) (hg : V.getH 5 r = none) : Calls Tryz.prog 27 #[v, .int .u8 kind] w (OpenEnd w ([], 5)) := by
  have hs := h
  have hlen2 : 2 ≤ l.length := by rw [hlr]; simp
  obtain ⟨a, cap, rfl, hl, hm, hna, ho⟩ := h.open
  obtain ⟨b, off, rfl, hbl, hc⟩ := ho (by omega)
  have k0 : w.cell? ⟨b, off, none⟩ = some (.int .u8 70) := by have := hc 0 (by omega); rw [Nat.add_zero] at this; rw [this, hlr]; rfl
  have k1 : w.cell? ⟨b, off + 1, none⟩ = some (.int .u8 kind) := by have := hc 1 (by omega); rw [this, hlr]; rfl
  clear h ho hna hc
  have hk : (kind != kind) = false := by simp
  have h2' : decide ((l.length : Int) < 2) = false := by simp; omega
  have HG := hide (get_two_none hlr hg)
  clear hg hlr
  go_enter Tryz.func27, Tryz.ntmps27
  go_wp2_with fail
  refine (get_b _ l 2 _ hs hb (0, 0, 5) (unhide HG)).mono ?_
  rintro e w1 ⟨rfl, hb1⟩
  go_wp2
  go_ret2
  exact openEnd_err hb1

set_option maxHeartbeats 400000 in
theorem open_size (v : Value) (l r : List Int) (kind : Int) (n k : Nat) (w : World) (hlr : l = 70 :: kind :: r) (h : Sl .u8 w v l) (hb : V.Byt l) (hg : V.getH 5 r = some ((n : Int), k)) (hn0 : n ≤ 34359738367) (hkr : 2 + k ≤ l.length)
    (hn : ¬ (n ≤ 65536 ∧ l.length = 2 + k + n + 4)) : Calls Tryz.prog 27 #[v, .int .u8 kind] w (OpenEnd w ([], 5)) := by
  have hs := h
  have hlen2 : 2 ≤ l.length := by rw [hlr]; simp
  obtain ⟨a, cap, rfl, hl, hm, hna, ho⟩ := h.open
  obtain ⟨b, off, rfl, hbl, hc⟩ := ho (by omega)
  have k0 : w.cell? ⟨b, off, none⟩ = some (.int .u8 70) := by have := hc 0 (by omega); rw [Nat.add_zero] at this; rw [this, hlr]; rfl
  have k1 : w.cell? ⟨b, off + 1, none⟩ = some (.int .u8 kind) := by have := hc 1 (by omega); rw [this, hlr]; rfl
  clear h ho hna hc
  have hk : (kind != kind) = false := by simp
  have h2' : decide ((l.length : Int) < 2) = false := by simp; omega
  have HG := hide (get_two hlr hg)
  clear hg hlr
  go_enter Tryz.func27, Tryz.ntmps27
  go_wp2_with fail
  refine (get_b _ l 2 _ hs hb (n, 2 + k, 0) (unhide HG)).mono ?_
  rintro e w1 ⟨rfl, hb1⟩
  clear HG hs k0 k1
  by_cases h6 : n ≤ 65536
  · have h7 : decide (65536 < (n : Int)) = false := by simp; omega
    have h8 : ((l.length : Int) - (2 + k) != n + 4) = true := by simp; omega
    clear hn
    go_wp2
    go_ret2
    exact openEnd_err hb1
  · have h7 : decide (65536 < (n : Int)) = true := by simp; omega
    clear hn
    go_wp2
    go_ret2
    exact openEnd_err hb1

theorem drop_take_all2 (l : List Int) (p m : Nat) (h : p + m = l.length) : (l.drop p).take m = l.drop p := List.take_of_length_le (by simp; omega)

set_option maxHeartbeats 1000000 in
theorem open_rest (v : Value) (l r : List Int) (kind : Int) (n k : Nat) (w : World) (hlr : l = 70 :: kind :: r) (h : Sl .u8 w v l) (hb : V.Byt l) (hg : V.getH 5 r = some ((n : Int), k)) (hn : n ≤ 65536) (hk5 : k ≤ 5)
    (hlen : l.length = 2 + k + n + 4) : Calls Tryz.prog 27 #[v, .int .u8 kind] w (OpenEnd w (F.rest l n (2 + k))) := by
  obtain ⟨i0, hi, hz0, hz1, hz2⟩ := info_parts Tryz.info5
  have hs := h
  have hlen2 : 2 ≤ l.length := by rw [hlr]; simp
  obtain ⟨a, cap, rfl, hl, hm, hna, ho⟩ := h.open
  obtain ⟨b, off, rfl, hbl, hc⟩ := ho (by omega)
  have k0 : w.cell? ⟨b, off, none⟩ = some (.int .u8 70) := by have := hc 0 (by omega); rw [Nat.add_zero] at this; rw [this, hlr]; rfl
  have k1 : w.cell? ⟨b, off + 1, none⟩ = some (.int .u8 kind) := by have := hc 1 (by omega); rw [this, hlr]; rfl
  clear h ho hna hc
  have hk : (kind != kind) = false := by simp
  have h2' : decide ((l.length : Int) < 2) = false := by simp; omega
  have HG := hide (get_two hlr hg)
  have HL := hide hlen
  have h8 : ((l.length : Int) - (2 + k) != n + 4) = false := by simp; omega
  have h7 : decide (65536 < (n : Int)) = false := by simp; omega
  have h9 : 2 + k + n ≤ l.length := by omega
  have h10 : 2 + k + n ≤ cap := by omega
  have h11 : ¬ cap = 0 := by omega
  have h12 : 2 + k < cap := by omega
  clear hg hlr hlen
  go_enter Tryz.func27, Tryz.ntmps27
  go_wp2_with fail
  refine (get_b _ l 2 _ hs hb (n, 2 + k, 0) (unhide HG)).mono ?_
  rintro e w1 ⟨rfl, hb1⟩
  have S1 := hs.below hb1
  clear HG hs k0 k1
  go_wp2_with fail
  refine (tail_b _ _ _ (S1.take (2 + k + n) h9) (hb.take _)).mono ?_
  rintro e w2 ⟨t0, t1, t2, t3, HT, rfl, hb2⟩
  have B2 := below_trans' hb1 hb2
  have S2 := S1.below hb2
  clear S1 hb1 hb2
  have hw2 : w.heap.size ≤ w2.heap.size := B2.size
  have eq4 : l.length - (2 + k + n) = 4 := by have := unhide HL; omega
  have T4 := (S2.below (below_alloc w2 (.cells #[.int .u8 t0, .int .u8 t1, .int .u8 t2, .int .u8 t3] 96))).sub (2 + k + n) 4 (by omega)
  rw [drop_take_all2 _ _ _ (by omega)] at T4
  have L4 : Sl .u8 (w2.alloc (.cells #[.int .u8 t0, .int .u8 t1, .int .u8 t2, .int .u8 t3] 96)) (.slice (some ⟨w2.heap.size, 0, none⟩) 4 4) [t0, t1, t2, t3] := Sl.lit (n := 4) _ rfl rfl (by omega)
  have cE := fun m : Nat => equalB_any _ _ _ _ ((w2.alloc (.cells #[.int .u8 t0, .int .u8 t1, .int .u8 t2, .int .u8 t3] 96)).drewN m) (L4.drewN m) (T4.drewN m) (by rw [← HT.out]; exact C.four_byt _) (hb.drop _)
  have hsl := Tryz.slice_lo b off l.length cap (2 + k + n) (2 + (k : Int) + (n : Int)) (by omega) (by omega) (by omega)
  rw [eq4] at hsl
  by_cases hd : [t0, t1, t2, t3] = l.drop (2 + k + n)
  · have HR : Hid (F.rest l n (2 + k) = ((l.drop (2 + k)).take n, 0)) := by
      unfold F.rest; rw [HT.out, if_pos hd]; rfl
    simp only [decide_eq_true hd] at cE
    have HC := hide cE
    clear cE hd eq4
    go_wp2_with fail
    go_quiet ((go_at_call 56; exact Calls.quiet_of_same (unhide HC _)))
    have S3 : Sl .u8 ((w2.alloc (.cells #[.int .u8 t0, .int .u8 t1, .int .u8 t2, .int .u8 t3] 96)).drewN nq) (.slice (some ⟨b, off + (2 + k), none⟩) n (cap - (2 + k))) ((l.drop (2 + k)).take n) := ((S2.below (below_alloc w2 (.cells #[.int .u8 t0, .int .u8 t1, .int .u8 t2, .int .u8 t3] 96))).sub (2 + k) n (by omega)).drewN nq
    have B3 : Below w.heap.size w ((w2.alloc (.cells #[.int .u8 t0, .int .u8 t1, .int .u8 t2, .int .u8 t3] 96)).drewN nq) := below_dr (below_all B2 _) nq
    have hsl2 := Tryz.slice_u8 b off l.length cap (2 + k) n (2 + (k : Int)) (2 + (k : Int) + (n : Int)) (by omega) (by omega) (by omega) (by omega)
    have len3 : ((l.drop (2 + k)).take n).length ≤ n := List.length_take_le _ _
    clear hsl HC L4 T4
    go_wp2_with (at_builtin; refine append_all rfl (.const (.slice none 0 0)) (.tmp 64) 33 rfl Tryz.underlying33 hi hz0 hz1 hz2 rfl (B := w.heap.size) (w0 := w) (pre := []) (zs := (l.drop (2 + k)).take n) rfl rfl S3 (World.ownsRow_nil _ _ _ _) B3 B3.size (by simp; omega) (by decide) ?_; intro v3 w3 hown3 hb3)
    go_ret2
    rw [HR.out]
    exact ⟨_, rfl, hown3, hb3⟩
  · have HR : Hid (F.rest l n (2 + k) = ([], 6)) := by
      unfold F.rest; rw [HT.out, if_neg hd]; rfl
    simp only [decide_eq_false hd] at cE
    have HC := hide cE
    clear cE hd eq4
    go_wp2_with fail
    go_quiet ((go_at_call 56; exact Calls.quiet_of_same (unhide HC _)))
    go_wp2
    go_ret2
    rw [HR.out]
    exact openEnd_err (below_dr (below_all B2 _) _)

theorem open_any (v : Value) (l : List Int) (kind : Int) (w : World) (h : Sl .u8 w v l) (hb : V.Byt l) : Calls Tryz.prog 27 #[v, .int .u8 kind] w (OpenEnd w (F.opened l kind)) := by
  by_cases h2 : l.length < 2
  · rw [F.opened_short h2]
    exact open_short v l kind w h h2
  · obtain ⟨c0, c1, r, hlr⟩ : ∃ c0 c1 r, l = c0 :: c1 :: r := by
      match l, h2 with
      | [], h2 => simp at h2
      | [_], h2 => simp at h2
      | c0 :: c1 :: r, _ => exact ⟨c0, c1, r, rfl⟩
    by_cases hh : c0 = 70 ∧ c1 = kind
    · obtain ⟨rfl, rfl⟩ := hh
      cases hg : V.getH 5 r with
      | none =>
        rw [show F.opened l c1 = ([], 5) by rw [hlr]; exact F.opened_none hg]
        exact open_none v l r c1 w hlr h hb hg
      | some y =>
        obtain ⟨n, k⟩ := y
        have hbr : V.Byt r := by rw [hlr] at hb; exact hb.tail.tail
        obtain ⟨g1, g2, g3, g4, g5⟩ := V.put_getH hbr hg
        have g6 : k ≤ 5 := by
          have := congrArg List.length g1
          have h5 := (V.put_len n).2
          rw [this, List.length_take] at h5
          omega
        have hll : l.length = r.length + 2 := by rw [hlr]; simp
        unfold V.Top at g3
        obtain ⟨m, rfl⟩ := Int.eq_ofNat_of_zero_le g2
        by_cases hn : m ≤ 65536 ∧ l.length = 2 + k + m + 4
        · rw [show F.opened l c1 = F.rest l m (2 + k) by rw [hlr]; rw [hlr] at hn; exact F.opened_rest hg hn.1 hn.2]
          exact open_rest v l r c1 m k w hlr h hb hg hn.1 g6 hn.2
        · rw [show F.opened l c1 = ([], 5) by rw [hlr]; rw [hlr] at hn; exact F.opened_size hg (by omega)]
          exact open_size v l r c1 m k w hlr h hb hg (by omega) (by omega) hn
    · rw [show F.opened l kind = ([], 5) by rw [hlr]; exact F.opened_head hh]
      exact open_head v c0 c1 r kind w (by rw [← hlr]; exact h) hh
end Go.Proofs.YtonhehhmnobciaaGreat

/-
  The chapter's examples hold: the contract of the statements' own 'awake' (frame).
-/
namespace Go.Proofs.YtonhehhmnobciaaGreat
set_option maxRecDepth 100000
open Go.RowKit

theorem Sl.at {k : IntKind} {w : World} {b off n cap : Nat} {zs : List Int} (h : Sl k w (.slice (some ⟨b, off, none⟩) n cap) zs) (i : Nat) (hi : i < n) : w.cell? ⟨b, off + i, none⟩ = some (.int k (zs.getD i 0)) := by
  obtain ⟨a', cap', hv, hl, hm, hn, hc⟩ := h
  simp only [Value.slice.injEq] at hv
  obtain ⟨rfl, rfl, rfl⟩ := hv
  rw [← Addr.add_lit]
  exact hc _ rfl i hi

theorem open_to {w w' : World} {e : Ending} {r : List Int × Int} {x : List Int} {n : Int} (hr : r = (x, n)) (h : OpenEnd w r e w') : ∃ v', e = .returned (.tuple #[v', .int .i64 n]) ∧ Sl .u8 w' v' x ∧ Below w.heap.size w w' := by
  subst hr
  obtain ⟨v', h1, h2, h3⟩ := h
  exact ⟨v', h1, Sl.owned h2, h3⟩

theorem open_b (v : Value) (l : List Int) (kind : Int) (w : World) (h : Sl .u8 w v l) (hb : V.Byt l) (x : List Int) (n : Int) (hr : F.opened l kind = (x, n)) :
    Calls Tryz.prog 27 #[v, .int .u8 kind] w fun e w' => ∃ v', e = .returned (.tuple #[v', .int .i64 n]) ∧ Sl .u8 w' v' x ∧ Below w.heap.size w w' :=
  (open_any v l kind w h hb).mono fun _ _ h => open_to hr h

theorem wrap_b (kind : Int) (v : Value) (l : List Int) (w : World) (h : Sl .u8 w v l) (hb : V.Byt l) (hk : 0 ≤ kind ∧ kind ≤ 255) (x : List Int) (hx : F.wrap kind l = x) :
    Calls Tryz.prog 26 #[.int .u8 kind, v] w fun e w' => ∃ v', e = .returned v' ∧ Sl .u8 w' v' x ∧ Below w.heap.size w w' :=
  (wrap_any kind v l w h hb hk).mono fun _ _ ⟨v', h1, h2, h3⟩ => ⟨v', h1, by rw [← hx]; exact Sl.owned h2, h3⟩

theorem cell_freeze (w : World) (a : Addr) (n : Nat) (x : Addr) : (w.freeze a n).cell? x = w.cell? x := by
  unfold World.freeze
  split
  · rfl
  · unfold World.cell?
    simp only [Array.getElem?_modify]
    by_cases h : a.block = x.block
    · rw [if_pos h]
      cases w.heap[x.block]? with
      | none => rfl
      | some o => cases o <;> rfl
    · rw [if_neg h]

theorem below_freeze (w : World) (a : Addr) (n : Nat) {B : Nat} (hB : B ≤ a.block) : Below B w (w.freeze a n) := by
  unfold World.freeze
  split
  · exact Below.refl _ _
  · refine ⟨rfl, rfl, rfl, by simp, fun k hk => ?_⟩
    rw [Array.getElem?_modify, if_neg (by omega)]

/-- '[]byte(text)' of a text that is written out: the row that was laid, marked as one that a text gave. -/
theorem Tryz.conv_text (w : World) (cs : Array Value) (zs : List Int) (n : Nat) (hn : zs.length = n) (h : cs.toList = zs.map (Value.int .u8)) (hl : n ≤ 4294967296) :
    ∃ w', (convert 33 33 (.slice (some ⟨w.heap.size, 0, none⟩) n n)).run Tryz.prog (w.alloc (.cells cs 5)) = .ok (.slice (some ⟨w.heap.size, 0, none⟩) n n) w' ∧ Below w.heap.size w w' ∧ Sl .u8 w' (.slice (some ⟨w.heap.size, 0, none⟩) n n) zs := by
  have hsh : (w.alloc (.cells cs 5)).shape? w.heap.size = some (5, cs.size) := by
    show (match (w.heap.push (.cells cs 5))[w.heap.size]? with | some (.cells c elem _) => some (elem, c.size) | _ => none) = _
    rw [Array.getElem?_push_size]
  refine ⟨(w.alloc (.cells cs 5)).freeze ⟨w.heap.size, cs.size, none⟩ 1, ?_, (below_alloc _ _).trans (below_freeze _ _ _ (Nat.le_refl _)), ?_⟩
  · simp [convert, run_underlying Tryz.underlying33, run_underlying Tryz.underlying5, markStringish, hsh]
  · obtain ⟨a, cap, hv, h1, h2, h3, h4⟩ := Sl.lit (k := .u8) (e := 5) (w := w) zs hn h hl
    exact ⟨a, cap, hv, h1, h2, h3, fun x hx i hi => by rw [cell_freeze]; exact h4 x hx i hi⟩

theorem ex_sum : C.sum [49, 50, 51, 52, 53, 54, 55, 56, 57] = 3808858755 := by decide +kernel
theorem ex_len : (F.wrap 1 []).length = 7 := by decide +kernel
theorem ex_0 : (F.wrap 1 []).getD 0 0 = 70 := by decide +kernel
theorem ex_1 : (F.wrap 1 []).getD 1 0 = 1 := by decide +kernel
theorem ex_2 : (F.wrap 1 []).getD 2 0 = 0 := by decide +kernel
theorem ex_open : F.opened (F.wrap 7 [5, 6]) 7 = ([5, 6], 0) := by
  rw [F.wrap_in (by decide)]
  exact F.opened_frame (by decide)

end Go.Proofs.YtonhehhmnobciaaGreat
