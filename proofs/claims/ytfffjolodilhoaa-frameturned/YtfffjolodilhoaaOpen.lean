/-
  The contract of Open: what is within a frame of that kind, in new memory, or why it is none.
-/
import Derived.Test.YtfffjolodilhoaaWrap
namespace Go.Proofs.Ytfffjolodilhoaa
open Go.RowKit

/-- How a call of Open ends whose answer is r. -/
def OpenEnd (w : World) (r : List Int × Int) (e : Ending) (w' : World) : Prop :=
  ∃ v', e = .returned (.tuple #[v', .int .i64 r.2]) ∧ w'.ownsRow w.heap.size 5 1 v' r.1.length (r.1.map (Value.int .u8)) ∧ Below w.heap.size w w'

theorem openEnd_err {w w' : World} {n : Int} (hb : Below w.heap.size w w') : OpenEnd w ([], n) (.returned (.tuple #[.slice none 0 0, .int .i64 n])) w' := ⟨_, rfl, World.ownsRow_nil _ _ _ _, hb⟩

set_option maxHeartbeats 400000 in
theorem open_short (v : Value) (l : List Int) (kind : Int) (w : World) (h : Sl .u8 w v l) (h2 : l.length < 2) : Calls Try.prog 10 #[v, .int .u8 kind] w (OpenEnd w ([], 5)) := by
  obtain ⟨a, cap, rfl, hl, hm, hna, ho⟩ := h.open
  clear h ho hna
  have h2' : decide ((l.length : Int) < 2) = true := by simp; omega
  go_enter Try.func10, Try.ntmps10
  go_wp2
  go_ret2
  exact openEnd_err (Below.refl _ _)

set_option maxHeartbeats 400000 in
theorem open_head (v : Value) (c0 c1 : Int) (r : List Int) (kind : Int) (w : World) (h : Sl .u8 w v (c0 :: c1 :: r)) (hh : ¬ (c0 = 70 ∧ c1 = kind)) : Calls Try.prog 10 #[v, .int .u8 kind] w (OpenEnd w ([], 5)) := by
  obtain ⟨a, cap, rfl, hl, hm, hna, ho⟩ := h.open
  obtain ⟨b, off, rfl, hbl, hc⟩ := ho (by simp)
  have k0 := hc 0 (by simp)
  have k1 := hc 1 (by simp)
  simp at k0 k1 hl
  clear h ho hna hc
  have h2' : decide (((c0 :: c1 :: r).length : Int) < 2) = false := by simp; omega
  have h3 : 2 ≤ ((c0 :: c1 :: r).length : Int) := by simp; omega
  generalize (c0 :: c1 :: r).length = L at *
  by_cases h70 : c0 = 70
  · have hk : (c1 != kind) = true := by simp; omega
    subst h70
    go_enter Try.func10, Try.ntmps10
    go_wp2
    go_ret2
    exact openEnd_err (Below.refl _ _)
  · have hk : (c0 != 70) = true := by simp; omega
    go_enter Try.func10, Try.ntmps10
    go_wp2
    go_ret2
    exact openEnd_err (Below.refl _ _)

theorem get_two {l : List Int} {c0 c1 : Int} {r : List Int} {n k : Nat} (hlr : l = c0 :: c1 :: r) (h : V.getH 5 r = some ((n : Int), k)) : V.get l 2 = ((n : Int), 2 + (k : Int), 0) :=
  get_some (p := 2) (by rw [hlr]; simp) (by rw [hlr]; exact h)
theorem get_two_none {l : List Int} {c0 c1 : Int} {r : List Int} (hlr : l = c0 :: c1 :: r) (h : V.getH 5 r = none) : V.get l 2 = (0, 0, 5) := get_none (p := 2) (by rw [hlr]; simp) (by rw [hlr]; exact h)

set_option maxHeartbeats 400000 in
theorem open_none (v : Value) (l r : List Int) (kind : Int) (w : World) (hlr : l = 70 :: kind :: r) (h : Sl .u8 w v l) (hb : V.Byt l) (hg : V.getH 5 r = none) : Calls Try.prog 10 #[v, .int .u8 kind] w (OpenEnd w ([], 5)) := by
  have hs := h
  have hlen2 : 2 ≤ l.length := by rw [hlr]; simp
  obtain ⟨a, cap, rfl, hl, hm, hna, ho⟩ := h.open
  obtain ⟨b, off, rfl, hbl, hc⟩ := ho (by omega)
  have k0 : w.cell? ⟨b, off, none⟩ = some (.int .u8 70) := by have := hc 0 (by omega); rw [Nat.add_zero] at this; rw [this, hlr]; rfl
  have k1 : w.cell? ⟨b, off + 1, none⟩ = some (.int .u8 kind) := by have := hc 1 (by omega); rw [this, hlr]; rfl
  clear h ho hna hc
  have hk : (kind != kind) = false := by simp
  have h2' : decide ((l.length : Int) < 2) = false := by simp; omega
  have HG := hide (get_two_none hlr hg)
  clear hg hlr
  go_enter Try.func10, Try.ntmps10
  go_wp2_with fail
  refine (get_b _ l 2 _ hs hb (0, 0, 5) (unhide HG)).mono ?_
  rintro e w1 ⟨rfl, hb1⟩
  go_wp2
  go_ret2
  exact openEnd_err hb1

set_option maxHeartbeats 400000 in
theorem open_size (v : Value) (l r : List Int) (kind : Int) (n k : Nat) (w : World) (hlr : l = 70 :: kind :: r) (h : Sl .u8 w v l) (hb : V.Byt l) (hg : V.getH 5 r = some ((n : Int), k)) (hn0 : n ≤ 34359738367) (hkr : 2 + k ≤ l.length)
    (hn : ¬ (n ≤ 65536 ∧ l.length = 2 + k + n + 4)) : Calls Try.prog 10 #[v, .int .u8 kind] w (OpenEnd w ([], 5)) := by
  have hs := h
  have hlen2 : 2 ≤ l.length := by rw [hlr]; simp
  obtain ⟨a, cap, rfl, hl, hm, hna, ho⟩ := h.open
  obtain ⟨b, off, rfl, hbl, hc⟩ := ho (by omega)
  have k0 : w.cell? ⟨b, off, none⟩ = some (.int .u8 70) := by have := hc 0 (by omega); rw [Nat.add_zero] at this; rw [this, hlr]; rfl
  have k1 : w.cell? ⟨b, off + 1, none⟩ = some (.int .u8 kind) := by have := hc 1 (by omega); rw [this, hlr]; rfl
  clear h ho hna hc
  have hk : (kind != kind) = false := by simp
  have h2' : decide ((l.length : Int) < 2) = false := by simp; omega
  have HG := hide (get_two hlr hg)
  clear hg hlr
  go_enter Try.func10, Try.ntmps10
  go_wp2_with fail
  refine (get_b _ l 2 _ hs hb (n, 2 + k, 0) (unhide HG)).mono ?_
  rintro e w1 ⟨rfl, hb1⟩
  clear HG hs k0 k1
  by_cases h6 : n ≤ 65536
  · have h7 : decide (65536 < (n : Int)) = false := by simp; omega
    have h8 : ((l.length : Int) - (2 + k) != n + 4) = true := by simp; omega
    clear hn
    go_wp2
    go_ret2
    exact openEnd_err hb1
  · have h7 : decide (65536 < (n : Int)) = true := by simp; omega
    clear hn
    go_wp2
    go_ret2
    exact openEnd_err hb1

theorem drop_take_all (l : List Int) (p m : Nat) (h : p + m = l.length) : (l.drop p).take m = l.drop p := List.take_of_length_le (by simp; omega)

set_option maxHeartbeats 1000000 in
theorem open_rest (v : Value) (l r : List Int) (kind : Int) (n k : Nat) (w : World) (hlr : l = 70 :: kind :: r) (h : Sl .u8 w v l) (hb : V.Byt l) (hg : V.getH 5 r = some ((n : Int), k)) (hn : n ≤ 65536) (hk5 : k ≤ 5)
    (hlen : l.length = 2 + k + n + 4) : Calls Try.prog 10 #[v, .int .u8 kind] w (OpenEnd w (F.rest l n (2 + k))) := by
  obtain ⟨i0, hi, hz0, hz1, hz2⟩ := info_parts Try.info5
  have hs := h
  have hlen2 : 2 ≤ l.length := by rw [hlr]; simp
  obtain ⟨a, cap, rfl, hl, hm, hna, ho⟩ := h.open
  obtain ⟨b, off, rfl, hbl, hc⟩ := ho (by omega)
  have k0 : w.cell? ⟨b, off, none⟩ = some (.int .u8 70) := by have := hc 0 (by omega); rw [Nat.add_zero] at this; rw [this, hlr]; rfl
  have k1 : w.cell? ⟨b, off + 1, none⟩ = some (.int .u8 kind) := by have := hc 1 (by omega); rw [this, hlr]; rfl
  clear h ho hna hc
  have hk : (kind != kind) = false := by simp
  have h2' : decide ((l.length : Int) < 2) = false := by simp; omega
  have HG := hide (get_two hlr hg)
  have HL := hide hlen
  have h8 : ((l.length : Int) - (2 + k) != n + 4) = false := by simp; omega
  have h7 : decide (65536 < (n : Int)) = false := by simp; omega
  have h9 : 2 + k + n ≤ l.length := by omega
  have h10 : 2 + k + n ≤ cap := by omega
  have h11 : ¬ cap = 0 := by omega
  have h12 : 2 + k < cap := by omega
  clear hg hlr hlen
  go_enter Try.func10, Try.ntmps10
  go_wp2_with fail
  refine (get_b _ l 2 _ hs hb (n, 2 + k, 0) (unhide HG)).mono ?_
  rintro e w1 ⟨rfl, hb1⟩
  have S1 := hs.below hb1
  clear HG hs k0 k1
  go_wp2_with fail
  refine (tail_b _ _ _ (S1.take (2 + k + n) h9) (hb.take _)).mono ?_
  rintro e w2 ⟨t0, t1, t2, t3, HT, rfl, hb2⟩
  have B2 := below_trans' hb1 hb2
  have S2 := S1.below hb2
  clear S1 hb1 hb2
  have hw2 : w.heap.size ≤ w2.heap.size := B2.size
  have eq4 : l.length - (2 + k + n) = 4 := by have := unhide HL; omega
  have T4 := (S2.below (below_alloc w2 (.cells #[.int .u8 t0, .int .u8 t1, .int .u8 t2, .int .u8 t3] 33))).sub (2 + k + n) 4 (by omega)
  rw [drop_take_all _ _ _ (by omega)] at T4
  have L4 : Sl .u8 (w2.alloc (.cells #[.int .u8 t0, .int .u8 t1, .int .u8 t2, .int .u8 t3] 33)) (.slice (some ⟨w2.heap.size, 0, none⟩) 4 4) [t0, t1, t2, t3] := Sl.lit (n := 4) _ rfl rfl (by omega)
  have cE := fun m : Nat => equal_any _ _ _ _ ((w2.alloc (.cells #[.int .u8 t0, .int .u8 t1, .int .u8 t2, .int .u8 t3] 33)).drewN m) (L4.drewN m) (T4.drewN m) (by rw [← HT.out]; exact C.four_byt _) (hb.drop _)
  have hsl := Try.slice_lo b off l.length cap (2 + k + n) (2 + (k : Int) + (n : Int)) (by omega) (by omega) (by omega)
  rw [eq4] at hsl
  by_cases hd : [t0, t1, t2, t3] = l.drop (2 + k + n)
  · have HR : Hid (F.rest l n (2 + k) = ((l.drop (2 + k)).take n, 0)) := by
      unfold F.rest; rw [HT.out, if_pos hd]; rfl
    simp only [decide_eq_true hd] at cE
    have HC := hide cE
    clear cE hd eq4
    go_wp2_with fail
    go_quiet ((go_at_call 19; exact Calls.quiet_of_same (unhide HC _)))
    have S3 : Sl .u8 ((w2.alloc (.cells #[.int .u8 t0, .int .u8 t1, .int .u8 t2, .int .u8 t3] 33)).drewN nq) (.slice (some ⟨b, off + (2 + k), none⟩) n (cap - (2 + k))) ((l.drop (2 + k)).take n) := ((S2.below (below_alloc w2 (.cells #[.int .u8 t0, .int .u8 t1, .int .u8 t2, .int .u8 t3] 33))).sub (2 + k) n (by omega)).drewN nq
    have B3 : Below w.heap.size w ((w2.alloc (.cells #[.int .u8 t0, .int .u8 t1, .int .u8 t2, .int .u8 t3] 33)).drewN nq) := below_dr (below_all B2 _) nq
    have hsl2 := Try.slice_u8 b off l.length cap (2 + k) n (2 + (k : Int)) (2 + (k : Int) + (n : Int)) (by omega) (by omega) (by omega) (by omega)
    have len3 : ((l.drop (2 + k)).take n).length ≤ n := List.length_take_le _ _
    clear hsl HC L4 T4
    go_wp2_with (at_builtin; refine append_all rfl (.const (.slice none 0 0)) (.tmp 64) 22 rfl Try.underlying22 hi hz0 hz1 hz2 rfl (B := w.heap.size) (w0 := w) (pre := []) (zs := (l.drop (2 + k)).take n) rfl rfl S3 (World.ownsRow_nil _ _ _ _) B3 B3.size (by simp; omega) (by decide) ?_; intro v3 w3 hown3 hb3)
    go_ret2
    rw [HR.out]
    exact ⟨_, rfl, hown3, hb3⟩
  · have HR : Hid (F.rest l n (2 + k) = ([], 6)) := by
      unfold F.rest; rw [HT.out, if_neg hd]; rfl
    simp only [decide_eq_false hd] at cE
    have HC := hide cE
    clear cE hd eq4
    go_wp2_with fail
    go_quiet ((go_at_call 19; exact Calls.quiet_of_same (unhide HC _)))
    go_wp2
    go_ret2
    rw [HR.out]
    exact openEnd_err (below_dr (below_all B2 _) _)

theorem open_any (v : Value) (l : List Int) (kind : Int) (w : World) (h : Sl .u8 w v l) (hb : V.Byt l) : Calls Try.prog 10 #[v, .int .u8 kind] w (OpenEnd w (F.opened l kind)) := by
  by_cases h2 : l.length < 2
  · rw [F.opened_short h2]
    exact open_short v l kind w h h2
  · obtain ⟨c0, c1, r, hlr⟩ : ∃ c0 c1 r, l = c0 :: c1 :: r := by
      match l, h2 with
      | [], h2 => simp at h2
      | [_], h2 => simp at h2
      | c0 :: c1 :: r, _ => exact ⟨c0, c1, r, rfl⟩
    by_cases hh : c0 = 70 ∧ c1 = kind
    · obtain ⟨rfl, rfl⟩ := hh
      cases hg : V.getH 5 r with
      | none =>
        rw [show F.opened l c1 = ([], 5) by rw [hlr]; exact F.opened_none hg]
        exact open_none v l r c1 w hlr h hb hg
      | some y =>
        obtain ⟨n, k⟩ := y
        have hbr : V.Byt r := by rw [hlr] at hb; exact hb.tail.tail
        obtain ⟨g1, g2, g3, g4, g5⟩ := V.put_getH hbr hg
        have g6 : k ≤ 5 := by
          have := congrArg List.length g1
          have h5 := (V.put_len n).2
          rw [this, List.length_take] at h5
          omega
        have hll : l.length = r.length + 2 := by rw [hlr]; simp
        unfold V.Top at g3
        obtain ⟨m, rfl⟩ := Int.eq_ofNat_of_zero_le g2
        by_cases hn : m ≤ 65536 ∧ l.length = 2 + k + m + 4
        · rw [show F.opened l c1 = F.rest l m (2 + k) by rw [hlr]; rw [hlr] at hn; exact F.opened_rest hg hn.1 hn.2]
          exact open_rest v l r c1 m k w hlr h hb hg hn.1 g6 hn.2
        · rw [show F.opened l c1 = ([], 5) by rw [hlr]; rw [hlr] at hn; exact F.opened_size hg (by omega)]
          exact open_size v l r c1 m k w hlr h hb hg (by omega) (by omega) hn
    · rw [show F.opened l kind = ([], 5) by rw [hlr]; exact F.opened_head hh]
      exact open_head v c0 c1 r kind w (by rw [← hlr]; exact h) hh
end Go.Proofs.Ytfffjolodilhoaa
