/-
  The contract of Wrap: the frame of whatever bytes, in new memory; nothing, if they are too many.
-/
import Derived.Test.YtfffjolodilhoaaTail
namespace Go.Proofs.Ytfffjolodilhoaa
open Go.RowKit

set_option maxHeartbeats 400000 in
theorem wrap_any (kind : Int) (v : Value) (l : List Int) (w : World) (h : Sl .u8 w v l) (hb : V.Byt l) (hk : 0 ≤ kind ∧ kind ≤ 255) :
    Calls Try.prog 13 #[.int .u8 kind, v] w fun e w' => ∃ v', e = .returned v' ∧ w'.ownsRow w.heap.size 5 1 v' (F.wrap kind l).length ((F.wrap kind l).map (Value.int .u8)) ∧ Below w.heap.size w w' := by
  obtain ⟨i0, hi, hz0, hz1, hz2⟩ := info_parts Try.info5
  have hs := h
  obtain ⟨a, cap, rfl, hl, hm, hna, ho⟩ := h.open
  clear h ho hna
  by_cases h1 : l.length ≤ 65536
  · rw [F.wrap_in h1]
    go_enter Try.func13, Try.ntmps13
    go_wp2_with fail
    refine (put_any _ _).mono ?_
    rintro e w1 ⟨v1, rfl, hown1, hb1⟩
    rw [V.putA_in ⟨by omega, by omega⟩] at hown1
    have O1 := own_below (World.ownsRow_lit (base := w.heap.size) (size := 1) (e := 5) w #[.int .u8 70, .int .u8 kind] 2 (Nat.le_refl _) (by unfold maxLen; omega) rfl) hb1
    have B1 := below_trans' (below_alloc _ _) hb1
    have P1 := Sl.owned hown1
    have l5 := (V.put_len l.length).2
    clear hown1 hb1
    go_wp2_with (first
      | (at_builtin; refine append_all rfl (.tmp 11) (.tmp 14) 22 rfl Try.underlying22 hi hz0 hz1 hz2 rfl (B := w.heap.size) (w0 := w) (pre := [70, kind]) (zs := V.put l.length) rfl rfl P1 O1 B1 B1.size (by simp; omega) (by decide) ?_; intro v2 w2 hown2 hb2)
      | (at_builtin; refine append_all rfl (.tmp 16) (.tmp 17) 22 rfl Try.underlying22 hi hz0 hz1 hz2 rfl (pre := [70, kind] ++ V.put l.length) (zs := l) rfl rfl (hs.below hb2) hown2 hb2 hb2.size (by simp; omega) (by decide) ?_; intro v3 w3 hown3 hb3))
    have E3 := Sl.owned hown3
    refine (tail_b _ _ _ E3 (F.body_byt hk hb h1)).mono ?_
    rintro e w4 ⟨t0, t1, t2, t3, HT, rfl, hb4⟩
    have O4 := own_below hown3 hb4
    have B4 := hb3.trans (hb4.mono hb3.size)
    clear hown2 hb2 hown3 hb3 hb4 E3 O1 B1 P1
    go_wp2_with (at_builtin; refine append_all rfl (.tmp 21) (.tmp 22) 22 rfl Try.underlying22 hi hz0 hz1 hz2 rfl (B := w.heap.size) (w0 := w) (pre := [70, kind] ++ V.put l.length ++ l) (zs := [t0, t1, t2, t3]) rfl rfl (Sl.lit (n := 4) [t0, t1, t2, t3] rfl rfl (by omega)) (O4.alloc _) (below_all B4 _) (below_all B4 _).size (by simp; omega) (by decide) ?_; intro v5 w5 hown5 hb5)
    go_ret
    rw [← HT.out] at hown5
    exact ⟨_, rfl, hown5, hb5⟩
  · rw [F.wrap_out h1]
    go_enter Try.func13, Try.ntmps13
    go_wp2
    go_ret
    exact ⟨_, rfl, World.ownsRow_nil _ _ _ _, Below.refl _ _⟩
end Go.Proofs.Ytfffjolodilhoaa
