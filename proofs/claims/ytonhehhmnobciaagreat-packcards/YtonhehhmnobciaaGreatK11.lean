/-
  Texts put together: RefWrap.
-/
import Derived.Test.YtonhehhmnobciaaGreatK08
import Derived.Test.YtonhehhmnobciaaGreatK09
import Derived.Test.YtonhehhmnobciaaGreatK01
/-
  The contracts of the document's Wrap and Open: they answer what the program's do.
-/
namespace Go.Proofs.YtonhehhmnobciaaGreat
set_option maxRecDepth 100000
open Go.RowKit

theorem C.dig_more {k t : Nat} {pre all : List Int} (hk : k < 4) (h : pre ++ C.dig (4 - k) t = all) : (pre ++ [((t % 256 : Nat) : Int)]) ++ C.dig (4 - (k + 1)) (t / 256) = all := by
  rw [← h, show 4 - k = (4 - (k + 1)) + 1 by omega]
  simp [C.dig]

set_option maxHeartbeats 1000000 in
theorem refWrap_any (kind : Int) (v : Value) (l : List Int) (w : World) (h : Sl .u8 w v l) (hb : V.Byt l) (hk : 0 ≤ kind ∧ kind ≤ 255) :
    Calls Tryz.prog 13 #[.int .u8 kind, v] w fun e w' => ∃ v', e = .returned v' ∧ w'.ownsRow w.heap.size 5 1 v' (F.wrap kind l).length ((F.wrap kind l).map (Value.int .u8)) ∧ Below w.heap.size w w' := by
  obtain ⟨i0, hi, hz0, hz1, hz2⟩ := info_parts Tryz.info5
  have hs := h
  obtain ⟨a, cap, rfl, hl, hm, hna, ho⟩ := h.open
  clear h ho hna
  by_cases h1 : l.length ≤ 65536
  · rw [F.wrap_in h1]
    go_enter Tryz.func13, Tryz.ntmps13
    go_wp2_with fail
    refine (refPut_any _ _).mono ?_
    rintro e w1 ⟨v1, rfl, hown1, hb1⟩
    rw [V.putA_in ⟨by omega, by omega⟩] at hown1
    have O1 := own_below (World.ownsRow_lit (base := w.heap.size) (size := 1) (e := 5) w #[.int .u8 70, .int .u8 kind] 2 (Nat.le_refl _) (by unfold maxLen; omega) rfl) hb1
    have B1 := below_trans' (below_alloc _ _) hb1
    have P1 := Sl.owned hown1
    have l5 := (V.put_len l.length).2
    clear hown1 hb1
    go_wp2_with (first
      | (at_builtin; refine append_all rfl (.tmp 12) (.tmp 15) 33 rfl Tryz.underlying33 hi hz0 hz1 hz2 rfl (B := w.heap.size) (w0 := w) (pre := [70, kind]) (zs := V.put l.length) rfl rfl P1 O1 B1 B1.size (by simp; omega) (by decide) ?_; intro v2 w2 hown2 hb2)
      | (at_builtin; refine append_all rfl (.tmp 17) (.tmp 18) 33 rfl Tryz.underlying33 hi hz0 hz1 hz2 rfl (pre := [70, kind] ++ V.put l.length) (zs := l) rfl rfl (hs.below hb2) hown2 hb2 hb2.size (by simp; omega) (by decide) ?_; intro v3 w3 hown3 hb3))
    have E3 := Sl.owned hown3
    refine (refSum_any _ _ _ E3 (F.body_byt hk hb h1)).mono ?_
    rintro e w4 ⟨rfl, hw4⟩
    have O4 : w4.ownsRow w.heap.size 5 1 v3 (F.body kind l).length ((F.body kind l).map (Value.int .u8)) := by rw [hw4]; exact hown3
    have B4 : Below w.heap.size w w4 := by rw [hw4]; exact hb3
    have hbl := F.body_len kind l
    have HBL := hide hbl
    have hbl2 : (F.body kind l).length ≤ 65543 := by omega
    have hsl := C.sum_lt (F.body kind l)
    obtain ⟨t, hte⟩ : ∃ t, t = C.sum (F.body kind l) := ⟨_, rfl⟩
    have HT := hide hte
    rw [← hte] at hsl
    rw [show C.sum ([70, kind] ++ V.put l.length ++ l) = t from hte.symm]
    clear hown2 hb2 hown3 hb3 E3 O1 B1 P1 hw4 hte hbl
    go_wp2
    go_loopw [5, 6, 7] (fun v n i wr => ∃ (k t : Nat) (pre : List Int), k ≤ 4 ∧ pre.length = k ∧ i = .int .i64 k ∧ n = .int .u32 t ∧ t < 4294967296 ∧ pre ++ C.dig (4 - k) t = C.four (C.sum (F.body kind l)) ∧
        wr.ownsRow w.heap.size 5 1 v (F.body kind l ++ pre).length ((F.body kind l ++ pre).map (Value.int .u8)) ∧ Below w.heap.size w wr) (fun _ _ i _ => 4 - (intOf i).toNat)
    case atStart => exact ⟨0, t, [], by omega, rfl, rfl, rfl, hsl, by rw [← unhide HT, ← C.dig_four]; rfl, by rw [List.append_nil]; exact O4, B4⟩
    case round =>
      obtain ⟨k, u, pre, hk4, hpl, rfl, rfl, hu, heq, hown, hbel⟩ := hrel
      have HQ := hide heq
      have HP := hide hpl
      have hpl2 : (F.body kind l ++ pre).length ≤ 70000 := by simp; omega
      have hBs := hbel.size
      clear heq hpl
      by_cases hlt : k < 4
      · go_wp2_with (at_builtin; refine append_one rfl _ _ 33 rfl Tryz.underlying33 hi hz0 hz1 hz2 rfl rfl rfl hown hbel hBs (by omega) (by decide) ?_; intro v5 w5 hown5 hbel5)
        go_roundw
        case rel =>
          refine ⟨k + 1, u / 256, pre ++ [((u % 256 : Nat) : Int)], by omega, by have := unhide HP; simp; omega, by go_num, rfl, by omega, C.dig_more hlt (unhide HQ), ?_, hbel5⟩
          rw [← List.append_assoc]
          exact hown5
        case measure => simp [intOf]; omega
      · go_wp2
        go_ret
        have hq := unhide HQ
        rw [show 4 - k = 0 by omega, C.dig, List.append_nil] at hq
        subst hq
        exact ⟨_, rfl, hown, hbel⟩
  · rw [F.wrap_out h1]
    go_enter Tryz.func13, Tryz.ntmps13
    go_wp2
    go_ret
    exact ⟨_, rfl, World.ownsRow_nil _ _ _ _, Below.refl _ _⟩
end Go.Proofs.YtonhehhmnobciaaGreat
