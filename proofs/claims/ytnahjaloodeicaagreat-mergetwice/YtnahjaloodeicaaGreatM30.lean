/-
  Texts put together: Tables11, Merge11, LawB11, Ex11, Awake11, Ret11.
-/
import Derived.Test.YtnahjaloodeicaaGreatM26
import Derived.Test.YtnahjaloodeicaaGreatM29
import Derived.Deep.CutRange
import Derived.Test.YtnahjaloodeicaaGreatM16
import Derived.Test.YtnahjaloodeicaaGreatM07
import Derived.Test.YtnahjaloodeicaaGreatM10
/-
  The contract of merge's tables: what each document's place is in the segment that is made.
-/
namespace Go.Proofs.YtnahjaloodeicaaGreat
set_option maxRecDepth 100000
open Go.RowKit Go.Deep

def TabEnd (w : World) (T : List (List Int)) (e : Ending) (w' : World) : Prop := ∃ v', e = .returned v' ∧ TlO w.heap.size w' v' T ∧ Below w.heap.size w w'

theorem run_field11 (x : Dc) (w : World) : (Instr.field 94 (.agg #[.int .i64 x.d, .string x.id, .int .i64 x.key, .slice none 0 0]) 0).run Tryz.prog w = .ok (.int .i64 x.d) w := by kernel_rfl

theorem least_none (so : Bool) (w : World) : Calls Tryz.prog 50 #[.slice none 0 0, .bool so] w fun e w' => e = .returned (.pointer none) ∧ Below w.heap.size w w' := by
  go_enter Tryz.func50, Tryz.ntmps50
  go_wp2
  go_loopw [5, 10] (fun fv iv wr => fv = .pointer none ∧ iv = .int .i64 0 ∧ Below w.heap.size w wr) (fun _ iv _ => 0)
  case atStart => exact ⟨rfl, rfl, Below.refl _ _⟩
  case round =>
    obtain ⟨rfl, rfl, hbel⟩ := hrel
    go_wp2
    go_ret
    exact ⟨rfl, hbel⟩

set_option linter.unusedSimpArgs false in
set_option maxRecDepth 100000 in
set_option maxHeartbeats 16000000 in
theorem tablesM_any (v u : Value) (l : List G.Sq) (ls : List (List Bool)) (so : Bool) (w : World) (hl : Gs w v l) (hb : Bll w u ls) (hG : G.Good l ls) (hlen : l.length ≤ 4294967295) :
    Calls Tryz.prog 26 #[v, u, .bool so] w (TabEnd w (G.tabs (G.out so (G.left l ls)).ids l ls)) := by
  obtain ⟨iW, hiW, hzW0, hzW1, hzW2⟩ := info_parts Tryz.infoW
  obtain ⟨iI, hiI, hzI0, hzI1, hzI2⟩ := info_parts Tryz.infoI
  have HG := hl
  have HB := hb
  obtain ⟨a, cap, rfl, h1, h2, hna, -⟩ := hl.open
  obtain ⟨a2, cap2, rfl, h3, h4, -⟩ := hb.at
  have HE := hide hG.right.1
  have HGD := hide hG
  clear hl hb hG
  go_enter Tryz.func26, Tryz.ntmps26
  go_wp2
  go_loopw [7, 8, 16] (fun v7 v8 iv wr => ∃ (k : Nat) (ws : List Wk), k ≤ l.length ∧ iv = .int .i64 k ∧ Hid (ws.length = k) ∧ Hid (C1 so l ls ws) ∧ wr.ownsRow w.heap.size 89 2 v7 ws.length (ws.flatMap encW) ∧ wr.ownsRow w.heap.size 27 1 v8 ws.length (ws.map fun x => sv (pts x)) ∧ Wo w.heap.size wr ws ∧ Below w.heap.size w wr) (fun _ _ iv _ => l.length - (intOf iv).toNat)
  case atStart => exact ⟨0, [], Nat.zero_le _, rfl, rfl, hide C1.nil, World.ownsRow_nil _ _ _ _, World.ownsRow_nil _ _ _ _, Wo.nil _ _, Below.refl _ _⟩
  case round =>
    obtain ⟨k, ws, hk, rfl, HWL, HC, hown7, hown8, hwo, hbel⟩ := hrel
    by_cases hlt : k < l.length
    · have hlt2 : k < ls.length := by have := unhide HE; omega
      obtain ⟨a', c', hv', -, -, -, ho⟩ := (HG.below hbel).open
      simp only [Value.slice.injEq, true_and] at hv'
      obtain ⟨rfl, rfl⟩ := hv'
      obtain ⟨b, off, rfl, hb, hc⟩ := ho (by omega)
      obtain ⟨s, hx⟩ : ∃ x, l[k]? = some x := ⟨_, List.getElem?_eq_getElem hlt⟩
      obtain ⟨t, hy⟩ : ∃ x, ls[k]? = some x := ⟨_, List.getElem?_eq_getElem hlt2⟩
      obtain ⟨ia, ka, lna, ta, ic, kc, lnc, tc, c0, c1, c2, c3, c4, hS⟩ := hc k s hx
      obtain ⟨a', c', hv', -, -, ho2⟩ := (HB.below hbel).at
      simp only [Value.slice.injEq, true_and] at hv'
      obtain ⟨rfl, rfl⟩ := hv'
      obtain ⟨b2, off2, rfl, hb2, hc2⟩ := ho2 (by omega)
      obtain ⟨ya, yc, d0, hgl⟩ := hc2 k t hy
      obtain ⟨W, hW⟩ : ∃ W, W = wr.alloc (.cells #[.slice ia s.1.ids.length ic, .slice ka s.1.keys.length kc, .slice lna s.1.lens.length lnc, .slice ta s.1.ts.length tc, .bool s.2] 30) := ⟨_, rfl⟩
      have BW : Below wr.heap.size wr W := by rw [hW]; exact below_alloc _ _
      have X0 : W.heap[wr.heap.size]? = some (.cells #[.slice ia s.1.ids.length ic, .slice ka s.1.keys.length kc, .slice lna s.1.lens.length lnc, .slice ta s.1.ts.length tc, .bool s.2] 30 (0, 0)) := by rw [hW]; exact heap_alloc_new wr _
      have hM := (unhide HGD).right.2 k s t hx hy
      obtain ⟨L, hL⟩ : ∃ L, G.wk so s.1 t = L := ⟨_, rfl⟩
      have CB := fun w1 (h9 : Below W.heap.size W w1) => beginM_any ia ka lna ta ic kc lnc tc s.1 s.2 so (.slice ya t.length yc) t w1 ((hS.below BW).below h9) hM.1 ((hgl.below BW).below h9) hM.2
      rw [hL] at CB
      have x0 := box_cell X0 (j := 0) rfl
      have x1 := box_cell X0 (j := 1) rfl
      have x2 := box_cell X0 (j := 2) rfl
      have x3 := box_cell X0 (j := 3) rfl
      have x4 := box_cell X0 (j := 4) rfl
      have e0 := cellK10 d0 BW
      have hsW : W.heap.size = wr.heap.size + 1 := by rw [hW]; simp
      have HSW := hide hsW
      have HX := hide hx
      have HY := hide hy
      have HLW := hide hL
      have HBW := hide BW
      have HHW := hide hW
      have q1 : b ≠ wr.heap.size := by omega
      have q2 : b2 ≠ wr.heap.size := by omega
      have hwl : ws.length < 4294967295 := by have := unhide HWL; omega
      obtain ⟨va7, vc7, hv7, -⟩ := id (Kl.owned encW_len (by decide) hown7)
      subst hv7
      obtain ⟨va8, vc8, hv8⟩ : ∃ a c, u8 = .slice a ws.length c := by
        obtain ⟨a9, c9, e9, -⟩ := Gl.owned (f := id) (l := ws.map fun x => sv (pts x)) (by simpa using hown8)
        exact ⟨a9, c9, by simpa using e9⟩
      subst hv8
      have KB : ∀ w' : World, Below W.heap.size W w' → Below W.heap.size W w' ∧ w'.cell? ⟨wr.heap.size, 0, none⟩ = some (.slice ia s.1.ids.length ic) ∧ w'.cell? ⟨wr.heap.size, 1, none⟩ = some (.slice ka s.1.keys.length kc) ∧ w'.cell? ⟨wr.heap.size, 2, none⟩ = some (.slice lna s.1.lens.length lnc) ∧ w'.cell? ⟨wr.heap.size, 3, none⟩ = some (.slice ta s.1.ts.length tc) ∧ w'.cell? ⟨wr.heap.size, 4, none⟩ = some (.bool s.2) ∧ w'.cell? ⟨b2, off2 + k, none⟩ = some (.slice ya t.length yc) := fun w' h9 => ⟨h9, cellK10 x0 h9, cellK10 x1 h9, cellK10 x2 h9, cellK10 x3 h9, cellK10 x4 h9, cellK10 e0 h9⟩
      have HKB := hide KB
      have HO7 := hide hown7
      have HO8 := hide hown8
      have HWO := hide hwo
      have HBL := hide hbel
      clear hc ho hc2 ho2 hx hy hS hgl hW hM hL X0 BW hsW hown7 hown8 hwo hbel KB
      go_upto_region 6 with fail
      go_cut [11] from 21 to 27 (fun p wx => ∃ (g : Nat) (x : Wk), p = .pointer (some ⟨g, 0, none⟩) ∧ Hid (x.left = L) ∧ Hid (x.tab = List.replicate s.1.ids.length (-1)) ∧ At7 w.heap.size w wx g ws x ∧ wr.heap.size ≤ g ∧ Below wr.heap.size wr wx)
      case first =>
        rw [← unhide HHW]
        refine wp_region_held_drew (S := fun w' => Below W.heap.size W w' ∧ w'.cell? ⟨wr.heap.size, 0, none⟩ = some (.slice ia s.1.ids.length ic) ∧ w'.cell? ⟨wr.heap.size, 1, none⟩ = some (.slice ka s.1.keys.length kc) ∧ w'.cell? ⟨wr.heap.size, 2, none⟩ = some (.slice lna s.1.lens.length lnc) ∧ w'.cell? ⟨wr.heap.size, 3, none⟩ = some (.slice ta s.1.ts.length tc) ∧ w'.cell? ⟨wr.heap.size, 4, none⟩ = some (.bool s.2) ∧ w'.cell? ⟨b2, off2 + k, none⟩ = some (.slice ya t.length yc)) (by kernel_rfl) (unhide HKB _ (Below.refl _ _).drew) (fun hH => ?_)
        refine takeH11 (i := 0) (d := some 21) (v := .agg #[.slice ia s.1.ids.length ic, .slice ka s.1.keys.length kc, .slice lna s.1.lens.length lnc, .slice ta s.1.ts.length tc, .bool s.2]) rfl rfl (by kernel_rfl) (by kernel_rfl) (by kernel_rfl) (fun _ _ _ h => h) (Or.inl ⟨by rfl, fun w9 hSw => ?_⟩) hH ?_
        · (try dsimp only at hSw); go_simp
        conv => arg 8; simp only [Act.put, List.setIfInBounds_toArray, List.set_cons_zero, List.set_cons_succ]
        refine takeH11 (i := 1) (d := some 22) (v := .slice (some ⟨b2, off2, none⟩) ls.length cap2) rfl rfl (by kernel_rfl) (by kernel_rfl) (by kernel_rfl) (fun _ _ _ h => h) (Or.inl ⟨by rfl, fun w9 hSw => ?_⟩) hH ?_
        · (try dsimp only at hSw); go_simp
        conv => arg 8; simp only [Act.put, List.setIfInBounds_toArray, List.set_cons_zero, List.set_cons_succ]
        refine takeH11 (i := 2) (d := some 23) (v := .int .i64 k) rfl rfl (by kernel_rfl) (by kernel_rfl) (by kernel_rfl) (fun _ _ _ h => h) (Or.inl ⟨by rfl, fun w9 hSw => ?_⟩) hH ?_
        · (try dsimp only at hSw); go_simp
        conv => arg 8; simp only [Act.put, List.setIfInBounds_toArray, List.set_cons_zero, List.set_cons_succ]
        refine takeH11 (i := 3) (d := some 24) (v := .pointer (some ⟨b2, off2 + k, none⟩)) rfl rfl (by kernel_rfl) (by kernel_rfl) (by kernel_rfl) (fun _ _ _ h => h) (Or.inl ⟨by rfl, fun w9 hSw => ?_⟩) hH ?_
        · (try dsimp only at hSw); go_simp
        conv => arg 8; simp only [Act.put, List.setIfInBounds_toArray, List.set_cons_zero, List.set_cons_succ]
        refine takeH11 (i := 4) (d := some 25) (v := .slice ya t.length yc) rfl rfl (by kernel_rfl) (by kernel_rfl) (by kernel_rfl) (fun _ _ _ h => h) (Or.inl ⟨by rfl, fun w9 hSw => ?_⟩) hH ?_
        · (try dsimp only at hSw); go_simp
        conv => arg 8; simp only [Act.put, List.setIfInBounds_toArray, List.set_cons_zero, List.set_cons_succ]
        refine takeH11 (i := 5) (d := some 26) (v := .bool so) rfl rfl (by kernel_rfl) (by kernel_rfl) (by kernel_rfl) (fun _ _ _ h => h) (Or.inl ⟨by rfl, fun w9 hSw => ?_⟩) hH ?_
        · (try dsimp only at hSw); go_simp
        conv => arg 8; simp only [Act.put, List.setIfInBounds_toArray, List.set_cons_zero, List.set_cons_succ]
        refine wpAnyH_ready (rs := [6, 7]) (by kernel_rfl) (by simp) ?_
        refine AllReadyH.cons rfl (fun K hK => ?_) ?_
        · skip
          go_simp
          refine (CB _ (Below.refl _ _).drew).mono ?_
          rintro e9 u1 ⟨la, lc, tb, rfl, OD0, OT0, B9⟩
          have BD0 : Below W.heap.size W u1 := below_trans' (Below.refl _ _).drew B9
          refine hK.out _ _ (unhide HKB _ BD0) (fun hH9 => ?_)
          clear hH
          have hH := hH9
          clear hH9 hK K
          try (conv => arg 8; simp only [Act.put, List.setIfInBounds_toArray, List.set_cons_zero, List.set_cons_succ])
          refine wpAnyH_ready (rs := [7]) (by kernel_rfl) (by simp) ?_
          refine AllReadyH.cons rfl (fun K hK => ?_) AllReadyH.nil
          go_simp
          have XG := heap_alloc_new u1 (.cells #[.slice none 0 0, .slice none 0 0] 89)
          have BA := below_alloc u1 (.cells #[.slice none 0 0, .slice none 0 0] 89)
          obtain ⟨u2, hu2⟩ : ∃ u2, u2 = u1.alloc (.cells #[.slice none 0 0, .slice none 0 0] 89) := ⟨_, rfl⟩
          rw [← hu2] at XG BA ⊢
          obtain ⟨g, hg⟩ : ∃ g, u1.heap.size = g := ⟨_, rfl⟩
          rw [hg] at XG
          simp only [hg]
          have hgW : W.heap.size ≤ g := by rw [← hg]; exact BD0.size
          have OD := own_below OD0 BA
          have OT := own_below OT0 BA
          have BD : Below W.heap.size W u2 := below_trans' BD0 BA
          clear hu2 hg OD0 OT0 BA BD0 B9
          refine hK.out _ _ (unhide HKB _ BD) (fun hH9 => ?_)
          clear hH
          have hH := hH9
          clear hH9 hK K
          try (conv => arg 8; simp only [Act.put, List.setIfInBounds_toArray, List.set_cons_zero, List.set_cons_succ])
          refine wpAnyH_ready (rs := [8]) (by kernel_rfl) (by simp) ?_
          refine AllReadyH.cons rfl (fun K hK => ?_) AllReadyH.nil
          have s0 := box_cell XG (j := 0) rfl
          have s1 := box_cell XG (j := 1) rfl
          have f0 := bfro XG 0
          have f1 := bfro XG 1
          go_simp
          refine hK.out _ _ (unhide HKB _ ((BD.setCell hgW _).setCell hgW _)) (fun hH9 => ?_)
          clear hH
          have hH := hH9
          clear hH9 hK K
          try (conv => arg 8; simp only [Act.put, List.setIfInBounds_toArray, List.set_cons_zero, List.set_cons_succ])
          refine wpAnyH_done (by kernel_rfl) ?_ _
          have hwo2 : Wo w.heap.size u2 (ws ++ [⟨la, lc, L, tb, List.replicate s.1.ids.length (-1)⟩]) := Wo.snoc (unhide HWO) (below_trans' (unhide HBW) BD) (show wr.heap.size ≤ W.heap.size by have := unhide HSW; omega) (Nat.le_trans (unhide HBL).size (show wr.heap.size ≤ W.heap.size by have := unhide HSW; omega)) OD (by simpa using OT)
          have hbel2 := (unhide HBL).trans ((below_trans' (unhide HBW) BD).mono (unhide HBL).size)
          have A7 := at7_of (x := ⟨la, lc, L, tb, List.replicate s.1.ids.length (-1)⟩) XG hwo2 hbel2 hbel2.size (show w.heap.size ≤ g by have := (unhide HBL).size; have := unhide HSW; omega) rfl (b := .slice (some ⟨tb, 0, none⟩) s.1.ids.length s.1.ids.length) (by simp)
          have HA7 := hide A7
          have BF : Below wr.heap.size wr ((u2.setCell ⟨g, 0, none⟩ (.slice la L.length lc)).setCell ⟨g, 1, none⟩ (.slice (some ⟨tb, 0, none⟩) s.1.ids.length s.1.ids.length)) := ((below_trans' (unhide HBW) BD).setCell (show wr.heap.size ≤ g by have := unhide HSW; omega) _).setCell (show wr.heap.size ≤ g by have := unhide HSW; omega) _
          have HBF := hide BF
          clear hwo2 hbel2 A7 BF XG OD OT BD s0 s1 f0 f1 hH
          go_wp2_with fail
          go_meet
          exact ⟨g, ⟨la, lc, L, tb, List.replicate s.1.ids.length (-1)⟩, rfl, rfl, rfl, unhide HA7, by have := unhide HSW; omega, unhide HBF⟩
        refine AllReadyH.cons rfl (fun K hK => ?_) AllReadyH.nil
        go_simp
        have XG : ((W.alloc (.cells #[.slice none 0 0, .slice none 0 0] 89)).drew).heap[W.heap.size]? = some (.cells #[.slice none 0 0, .slice none 0 0] 89 (0, 0)) := heap_alloc_new W (.cells #[.slice none 0 0, .slice none 0 0] 89)
        have BA : Below W.heap.size W (W.alloc (.cells #[.slice none 0 0, .slice none 0 0] 89)).drew := (below_alloc W (.cells #[.slice none 0 0, .slice none 0 0] 89)).drew
        have hz1 : W.heap.size + 1 = ((W.alloc (.cells #[.slice none 0 0, .slice none 0 0] 89)).drew).heap.size := by simp
        obtain ⟨u1, hu1⟩ : ∃ u1, u1 = (W.alloc (.cells #[.slice none 0 0, .slice none 0 0] 89)).drew := ⟨_, rfl⟩
        rw [← hu1] at XG BA hz1 ⊢
        obtain ⟨g, hg⟩ : ∃ g, W.heap.size = g := ⟨_, rfl⟩
        have hgW : W.heap.size ≤ g := by omega
        rw [hg] at XG
        simp only [hg]
        have HHG := hide hg
        clear hu1 hg
        refine hK.out _ _ (unhide HKB _ BA) (fun hH9 => ?_)
        clear hH
        have hH := hH9
        clear hH9 hK K
        try (conv => arg 8; simp only [Act.put, List.setIfInBounds_toArray, List.set_cons_zero, List.set_cons_succ])
        refine wpAnyH_ready (rs := [6]) (by kernel_rfl) (by simp) ?_
        refine AllReadyH.cons rfl (fun K hK => ?_) AllReadyH.nil
        go_simp
        refine (CB _ BA).mono ?_
        rintro e9 u2 ⟨la, lc, tb, rfl, OD, OT, B9⟩
        have BD : Below W.heap.size W u2 := below_trans' BA B9
        replace XG := box_below XG B9
        have hzz : wr.heap.size ≤ u1.heap.size := by have := unhide HSW; omega
        clear B9 BA
        refine hK.out _ _ (unhide HKB _ BD) (fun hH9 => ?_)
        clear hH
        have hH := hH9
        clear hH9 hK K
        try (conv => arg 8; simp only [Act.put, List.setIfInBounds_toArray, List.set_cons_zero, List.set_cons_succ])
        refine wpAnyH_ready (rs := [8]) (by kernel_rfl) (by simp) ?_
        refine AllReadyH.cons rfl (fun K hK => ?_) AllReadyH.nil
        have s0 := box_cell XG (j := 0) rfl
        have s1 := box_cell XG (j := 1) rfl
        have f0 := bfro XG 0
        have f1 := bfro XG 1
        go_simp
        refine hK.out _ _ (unhide HKB _ ((BD.setCell hgW _).setCell hgW _)) (fun hH9 => ?_)
        clear hH
        have hH := hH9
        clear hH9 hK K
        try (conv => arg 8; simp only [Act.put, List.setIfInBounds_toArray, List.set_cons_zero, List.set_cons_succ])
        refine wpAnyH_done (by kernel_rfl) ?_ _
        have hwo2 : Wo w.heap.size u2 (ws ++ [⟨la, lc, L, tb, List.replicate s.1.ids.length (-1)⟩]) := Wo.snoc (unhide HWO) (below_trans' (unhide HBW) BD) hzz (Nat.le_trans (unhide HBL).size hzz) OD (by simpa using OT)
        have hbel2 := (unhide HBL).trans ((below_trans' (unhide HBW) BD).mono (unhide HBL).size)
        have A7 := at7_of (x := ⟨la, lc, L, tb, List.replicate s.1.ids.length (-1)⟩) XG hwo2 hbel2 hbel2.size (show w.heap.size ≤ g by have := (unhide HBL).size; have := unhide HSW; omega) rfl (b := .slice (some ⟨tb, 0, none⟩) s.1.ids.length s.1.ids.length) (by simp)
        have HA7 := hide A7
        have BF : Below wr.heap.size wr ((u2.setCell ⟨g, 0, none⟩ (.slice la L.length lc)).setCell ⟨g, 1, none⟩ (.slice (some ⟨tb, 0, none⟩) s.1.ids.length s.1.ids.length)) := ((below_trans' (unhide HBW) BD).setCell (show wr.heap.size ≤ g by have := unhide HSW; omega) _).setCell (show wr.heap.size ≤ g by have := unhide HSW; omega) _
        have HBF := hide BF
        clear hwo2 hbel2 A7 BF XG OD OT BD s0 s1 f0 f1 hH
        go_wp2_with fail
        go_meet
        exact ⟨g, ⟨la, lc, L, tb, List.replicate s.1.ids.length (-1)⟩, rfl, rfl, rfl, unhide HA7, by have := unhide HSW; omega, unhide HBF⟩
      case rest =>
        obtain ⟨g, x, rfl, HXL, HXT, A7, hg, BWC⟩ := hcut
        obtain ⟨w7, hw7⟩ : ∃ w7, w7 = wc := ⟨_, rfl⟩
        rw [← hw7] at A7 BWC ⊢
        clear hw7
        have O7 := own_below (own_below (unhide HO7) BWC) (Below.refl _ _).drew
        have O8 := own_below (own_below (unhide HO8) BWC) (Below.refl _ _).drew
        have hg7 : some g ≠ (Value.slice va7 ws.length vc7).ownBlock := fun e => by have := ((unhide HO7).lt g e.symm).2; omega
        have A7d := A7.below (Below.refl _ _).drew
        clear A7 BWC
        go_upto_region 7 with fail
        refine wp_region_held_drew (S := fun w' => At7 w.heap.size w w' g ws x ∧ w'.cell? ⟨g, 0, none⟩ = some (.slice x.la x.left.length x.lc) ∧ w'.cell? ⟨g, 1, none⟩ = some (.slice (some ⟨x.tb, 0, none⟩) x.tab.length x.tab.length)) (by kernel_rfl) A7d.cells (fun hH => ?_)
        clear A7d
        obtain ⟨u0, hu0⟩ : ∃ u0, u0 = w7.drew := ⟨_, rfl⟩
        rw [← hu0] at hH O7 O8 ⊢
        clear hu0
        refine takeH11 (i := 0) (d := some 28) (v := .slice va7 ws.length vc7) rfl rfl (by kernel_rfl) (by kernel_rfl) (by kernel_rfl) (fun _ _ _ h => h) (Or.inl ⟨by rfl, fun w9 hSw => ?_⟩) hH ?_
        · (try dsimp only at hSw); go_simp
        conv => arg 8; simp only [Act.put, List.setIfInBounds_toArray, List.set_cons_zero, List.set_cons_succ]
        refine takeH11 (i := 1) (d := some 29) (v := .agg #[.slice x.la x.left.length x.lc, .slice (some ⟨x.tb, 0, none⟩) x.tab.length x.tab.length]) rfl rfl (by kernel_rfl) (by kernel_rfl) (by kernel_rfl) (fun _ _ _ h => h) (Or.inl ⟨by rfl, fun w9 hSw => ?_⟩) hH ?_
        · (try dsimp only at hSw); go_simp
        conv => arg 8; simp only [Act.put, List.setIfInBounds_toArray, List.set_cons_zero, List.set_cons_succ]
        refine takeH11 (i := 4) (d := some 32) (v := .slice va8 ws.length vc8) rfl rfl (by kernel_rfl) (by kernel_rfl) (by kernel_rfl) (fun _ _ _ h => h) (Or.inl ⟨by rfl, fun w9 hSw => ?_⟩) hH ?_
        · (try dsimp only at hSw); go_simp
        conv => arg 8; simp only [Act.put, List.setIfInBounds_toArray, List.set_cons_zero, List.set_cons_succ]
        refine takeH11 (i := 5) (d := some 33) (v := .pointer (some ⟨g, 1, none⟩)) rfl rfl (by kernel_rfl) (by kernel_rfl) (by kernel_rfl) (fun _ _ _ h => h) (Or.inl ⟨by rfl, fun w9 hSw => ?_⟩) hH ?_
        · (try dsimp only at hSw); go_simp
        conv => arg 8; simp only [Act.put, List.setIfInBounds_toArray, List.set_cons_zero, List.set_cons_succ]
        refine takeH11 (i := 6) (d := some 34) (v := .slice (some ⟨x.tb, 0, none⟩) x.tab.length x.tab.length) rfl rfl (by kernel_rfl) (by kernel_rfl) (by kernel_rfl) (fun _ _ _ h => h) (Or.inl ⟨by rfl, fun w9 hSw => ?_⟩) hH ?_
        · (try dsimp only at hSw); go_simp
        conv => arg 8; simp only [Act.put, List.setIfInBounds_toArray, List.set_cons_zero, List.set_cons_succ]
        refine wpAnyH_ready (rs := [2, 7]) (by kernel_rfl) (by simp) ?_
        refine AllReadyH.cons rfl (fun K hK => ?_) ?_
        · skip
          go_simp
          have L1 := heap_alloc_new u0 (.cells #[.slice x.la x.left.length x.lc, .slice (some ⟨x.tb, 0, none⟩) x.tab.length x.tab.length] 89)
          have BA := below_alloc u0 (.cells #[.slice x.la x.left.length x.lc, .slice (some ⟨x.tb, 0, none⟩) x.tab.length x.tab.length] 89)
          obtain ⟨u1, hu⟩ : ∃ u1, u1 = u0.alloc (.cells #[.slice x.la x.left.length x.lc, .slice (some ⟨x.tb, 0, none⟩) x.tab.length x.tab.length] 89) := ⟨_, rfl⟩
          rw [← hu] at L1 BA ⊢
          obtain ⟨k1, hk9⟩ : ∃ k1, u0.heap.size = k1 := ⟨_, rfl⟩
          rw [hk9] at L1
          simp only [hk9]
          replace O7 := own_below O7 BA
          replace O8 := own_below O8 BA
          have A9 := (hH.1.below BA).cells
          clear hu hk9 BA
          refine hK.out _ _ (A9) (fun hH9 => ?_)
          clear hH
          have hH := hH9
          clear hH9 hK K
          try (conv => arg 8; simp only [Act.put, List.setIfInBounds_toArray, List.set_cons_zero, List.set_cons_succ])
          clear A9
          refine wpAnyH_ready (rs := [3, 7]) (by kernel_rfl) (by simp) ?_
          refine AllReadyH.cons rfl (fun K hK => ?_) ?_
          · skip
            refine step_append_lies _ (by rfl) _ _ _ (by rfl) w.heap.size 89 iW _ 2 48 Tryz.underlying84 hiW hzW0 hzW1 hzW2 rfl (by omega) (.slice va7 ws.length vc7) _ _ (by rfl) O7 ⟨k1, 0, none⟩ 1 1 [.slice x.la x.left.length x.lc, .slice (some ⟨x.tb, 0, none⟩) x.tab.length x.tab.length] (by rfl) (by rfl) (World.news_of_block (cs := #[.slice x.la x.left.length x.lc, .slice (some ⟨x.tb, 0, none⟩) x.tab.length x.tab.length]) L1) (by simp [Value.oneCell']) (by omega) (by unfold maxLen; omega) (by omega) hH.1.le _ rfl ?_
            intro g2 q2 u2 O9 gr9 l9 lt9
            replace O8 := World.ownsRow.kept O8 gr9 (own_apart O8 O7 (by decide))
            have A9 := (hH.1.app O7 (by decide) (by decide) hg7 gr9).cells
            replace O7 := O9
            clear O9 gr9 l9 lt9 L1
            refine hK.out _ _ (A9) (fun hH9 => ?_)
            clear hH
            have hH := hH9
            clear hH9 hK K
            try (conv => arg 8; simp only [Act.put, List.setIfInBounds_toArray, List.set_cons_zero, List.set_cons_succ])
            clear A9
            refine wpAnyH_ready (rs := [7]) (by kernel_rfl) (by simp) ?_
            refine AllReadyH.cons rfl (fun K hK => ?_) AllReadyH.nil
            go_simp
            have L3 := heap_alloc_new u2 (.cells #[.slice (some ⟨x.tb, 0, none⟩) x.tab.length x.tab.length] 27)
            have BA := below_alloc u2 (.cells #[.slice (some ⟨x.tb, 0, none⟩) x.tab.length x.tab.length] 27)
            obtain ⟨u3, hu⟩ : ∃ u3, u3 = u2.alloc (.cells #[.slice (some ⟨x.tb, 0, none⟩) x.tab.length x.tab.length] 27) := ⟨_, rfl⟩
            rw [← hu] at L3 BA ⊢
            obtain ⟨k3, hk9⟩ : ∃ k3, u2.heap.size = k3 := ⟨_, rfl⟩
            rw [hk9] at L3
            simp only [hk9]
            replace O7 := own_below O7 BA
            replace O8 := own_below O8 BA
            have A9 := (hH.1.below BA).cells
            clear hu hk9 BA
            refine hK.out _ _ (A9) (fun hH9 => ?_)
            clear hH
            have hH := hH9
            clear hH9 hK K
            try (conv => arg 8; simp only [Act.put, List.setIfInBounds_toArray, List.set_cons_zero, List.set_cons_succ])
            clear A9
            refine wpAnyH_ready (rs := [8]) (by kernel_rfl) (by simp) ?_
            refine AllReadyH.cons rfl (fun K hK => ?_) AllReadyH.nil
            refine step_append_lies _ (by rfl) _ _ _ (by rfl) w.heap.size 27 iI _ 1 24 Tryz.underlying31 hiI hzI0 hzI1 hzI2 rfl (by omega) (.slice va8 ws.length vc8) _ _ (by rfl) O8 ⟨k3, 0, none⟩ 1 1 [.slice (some ⟨x.tb, 0, none⟩) x.tab.length x.tab.length] (by rfl) (by rfl) (World.news_of_block (cs := #[.slice (some ⟨x.tb, 0, none⟩) x.tab.length x.tab.length]) L3) (by simp [Value.oneCell']) (by omega) (by unfold maxLen; omega) (by omega) hH.1.le _ rfl ?_
            intro g4 q4 u4 O9 gr9 l9 lt9
            replace O7 := World.ownsRow.kept O7 gr9 (own_apart O7 O8 (by decide))
            have A9 := (hH.1.app O8 (by decide) (by decide) (own_ne_box O8 hH.1.box (by decide)) gr9).cells
            replace O8 := O9
            clear O9 gr9 l9 lt9 L3
            refine hK.out _ _ (A9) (fun hH9 => ?_)
            clear hH
            have hH := hH9
            clear hH9 hK K
            try (conv => arg 8; simp only [Act.put, List.setIfInBounds_toArray, List.set_cons_zero, List.set_cons_succ])
            clear A9
            refine takeH11 (i := 9) (d := some 7) (v := .slice (some ⟨g2, 0, none⟩) (ws.length + 1) q2) rfl rfl (by kernel_rfl) (by kernel_rfl) (by kernel_rfl) (fun _ _ _ h => h) (Or.inl ⟨by rfl, fun w9 hSw => ?_⟩) hH ?_
            · (try dsimp only at hSw); go_simp
            conv => arg 8; simp only [Act.put, List.setIfInBounds_toArray, List.set_cons_zero, List.set_cons_succ]
            refine takeH11 (i := 10) (d := some 8) (v := .slice (some ⟨g4, 0, none⟩) (ws.length + 1) q4) rfl rfl (by kernel_rfl) (by kernel_rfl) (by kernel_rfl) (fun _ _ _ h => h) (Or.inl ⟨by rfl, fun w9 hSw => ?_⟩) hH ?_
            · (try dsimp only at hSw); go_simp
            conv => arg 8; simp only [Act.put, List.setIfInBounds_toArray, List.set_cons_zero, List.set_cons_succ]
            refine wpAnyH_done (by kernel_rfl) ?_ _
            have HF7 := hide O7
            have HF8 := hide O8
            have HFW := hide hH.1.wo
            have HFB := hide hH.1.bel
            clear O7 O8 hH  
            go_wp2
            go_roundw
            case rel => exact ⟨k + 1, ws ++ [x], by omega, by go_num, hide (by rw [List.length_append, unhide HWL]; rfl), hide ((unhide HC).snoc (unhide HWL) (unhide HX) (unhide HY) ((unhide HXL).trans (unhide HLW).symm) (unhide HXT)), by rw [List.length_append, List.flatMap_append]; simpa [encW] using unhide HF7, by rw [List.length_append, List.map_append]; simpa [sv, pts] using unhide HF8, unhide HFW, unhide HFB⟩
            case measure => simp [intOf]; omega
          refine AllReadyH.cons rfl (fun K hK => ?_) AllReadyH.nil
          go_simp
          have L5 := heap_alloc_new u1 (.cells #[.slice (some ⟨x.tb, 0, none⟩) x.tab.length x.tab.length] 27)
          have BA := below_alloc u1 (.cells #[.slice (some ⟨x.tb, 0, none⟩) x.tab.length x.tab.length] 27)
          obtain ⟨u5, hu⟩ : ∃ u5, u5 = u1.alloc (.cells #[.slice (some ⟨x.tb, 0, none⟩) x.tab.length x.tab.length] 27) := ⟨_, rfl⟩
          rw [← hu] at L5 BA ⊢
          obtain ⟨k5, hk9⟩ : ∃ k5, u1.heap.size = k5 := ⟨_, rfl⟩
          rw [hk9] at L5
          simp only [hk9]
          replace O7 := own_below O7 BA
          replace O8 := own_below O8 BA
          replace L1 := box_below L1 BA
          have A9 := (hH.1.below BA).cells
          clear hu hk9 BA
          refine hK.out _ _ (A9) (fun hH9 => ?_)
          clear hH
          have hH := hH9
          clear hH9 hK K
          try (conv => arg 8; simp only [Act.put, List.setIfInBounds_toArray, List.set_cons_zero, List.set_cons_succ])
          clear A9
          refine wpAnyH_ready (rs := [3]) (by kernel_rfl) (by simp) ?_
          refine AllReadyH.cons rfl (fun K hK => ?_) AllReadyH.nil
          refine step_append_lies _ (by rfl) _ _ _ (by rfl) w.heap.size 89 iW _ 2 48 Tryz.underlying84 hiW hzW0 hzW1 hzW2 rfl (by omega) (.slice va7 ws.length vc7) _ _ (by rfl) O7 ⟨k1, 0, none⟩ 1 1 [.slice x.la x.left.length x.lc, .slice (some ⟨x.tb, 0, none⟩) x.tab.length x.tab.length] (by rfl) (by rfl) (World.news_of_block (cs := #[.slice x.la x.left.length x.lc, .slice (some ⟨x.tb, 0, none⟩) x.tab.length x.tab.length]) L1) (by simp [Value.oneCell']) (by omega) (by unfold maxLen; omega) (by omega) hH.1.le _ rfl ?_
          intro g6 q6 u6 O9 gr9 l9 lt9
          replace O8 := World.ownsRow.kept O8 gr9 (own_apart O8 O7 (by decide))
          replace L5 := box_grown L5 gr9 (own_ne_box O7 L5 (by decide))
          have A9 := (hH.1.app O7 (by decide) (by decide) hg7 gr9).cells
          replace O7 := O9
          clear O9 gr9 l9 lt9 L1
          refine hK.out _ _ (A9) (fun hH9 => ?_)
          clear hH
          have hH := hH9
          clear hH9 hK K
          try (conv => arg 8; simp only [Act.put, List.setIfInBounds_toArray, List.set_cons_zero, List.set_cons_succ])
          clear A9
          refine wpAnyH_ready (rs := [8]) (by kernel_rfl) (by simp) ?_
          refine AllReadyH.cons rfl (fun K hK => ?_) AllReadyH.nil
          refine step_append_lies _ (by rfl) _ _ _ (by rfl) w.heap.size 27 iI _ 1 24 Tryz.underlying31 hiI hzI0 hzI1 hzI2 rfl (by omega) (.slice va8 ws.length vc8) _ _ (by rfl) O8 ⟨k5, 0, none⟩ 1 1 [.slice (some ⟨x.tb, 0, none⟩) x.tab.length x.tab.length] (by rfl) (by rfl) (World.news_of_block (cs := #[.slice (some ⟨x.tb, 0, none⟩) x.tab.length x.tab.length]) L5) (by simp [Value.oneCell']) (by omega) (by unfold maxLen; omega) (by omega) hH.1.le _ rfl ?_
          intro g7 q7 u7 O9 gr9 l9 lt9
          replace O7 := World.ownsRow.kept O7 gr9 (own_apart O7 O8 (by decide))
          have A9 := (hH.1.app O8 (by decide) (by decide) (own_ne_box O8 hH.1.box (by decide)) gr9).cells
          replace O8 := O9
          clear O9 gr9 l9 lt9 L5
          refine hK.out _ _ (A9) (fun hH9 => ?_)
          clear hH
          have hH := hH9
          clear hH9 hK K
          try (conv => arg 8; simp only [Act.put, List.setIfInBounds_toArray, List.set_cons_zero, List.set_cons_succ])
          clear A9
          refine takeH11 (i := 9) (d := some 7) (v := .slice (some ⟨g6, 0, none⟩) (ws.length + 1) q6) rfl rfl (by kernel_rfl) (by kernel_rfl) (by kernel_rfl) (fun _ _ _ h => h) (Or.inl ⟨by rfl, fun w9 hSw => ?_⟩) hH ?_
          · (try dsimp only at hSw); go_simp
          conv => arg 8; simp only [Act.put, List.setIfInBounds_toArray, List.set_cons_zero, List.set_cons_succ]
          refine takeH11 (i := 10) (d := some 8) (v := .slice (some ⟨g7, 0, none⟩) (ws.length + 1) q7) rfl rfl (by kernel_rfl) (by kernel_rfl) (by kernel_rfl) (fun _ _ _ h => h) (Or.inl ⟨by rfl, fun w9 hSw => ?_⟩) hH ?_
          · (try dsimp only at hSw); go_simp
          conv => arg 8; simp only [Act.put, List.setIfInBounds_toArray, List.set_cons_zero, List.set_cons_succ]
          refine wpAnyH_done (by kernel_rfl) ?_ _
          have HF7 := hide O7
          have HF8 := hide O8
          have HFW := hide hH.1.wo
          have HFB := hide hH.1.bel
          clear O7 O8 hH  
          go_wp2
          go_roundw
          case rel => exact ⟨k + 1, ws ++ [x], by omega, by go_num, hide (by rw [List.length_append, unhide HWL]; rfl), hide ((unhide HC).snoc (unhide HWL) (unhide HX) (unhide HY) ((unhide HXL).trans (unhide HLW).symm) (unhide HXT)), by rw [List.length_append, List.flatMap_append]; simpa [encW] using unhide HF7, by rw [List.length_append, List.map_append]; simpa [sv, pts] using unhide HF8, unhide HFW, unhide HFB⟩
          case measure => simp [intOf]; omega
        refine AllReadyH.cons rfl (fun K hK => ?_) AllReadyH.nil
        go_simp
        have L8 := heap_alloc_new u0 (.cells #[.slice (some ⟨x.tb, 0, none⟩) x.tab.length x.tab.length] 27)
        have BA := below_alloc u0 (.cells #[.slice (some ⟨x.tb, 0, none⟩) x.tab.length x.tab.length] 27)
        obtain ⟨u8, hu⟩ : ∃ u8, u8 = u0.alloc (.cells #[.slice (some ⟨x.tb, 0, none⟩) x.tab.length x.tab.length] 27) := ⟨_, rfl⟩
        rw [← hu] at L8 BA ⊢
        obtain ⟨k8, hk9⟩ : ∃ k8, u0.heap.size = k8 := ⟨_, rfl⟩
        rw [hk9] at L8
        simp only [hk9]
        replace O7 := own_below O7 BA
        replace O8 := own_below O8 BA
        have A9 := (hH.1.below BA).cells
        clear hu hk9 BA
        refine hK.out _ _ (A9) (fun hH9 => ?_)
        clear hH
        have hH := hH9
        clear hH9 hK K
        try (conv => arg 8; simp only [Act.put, List.setIfInBounds_toArray, List.set_cons_zero, List.set_cons_succ])
        clear A9
        refine wpAnyH_ready (rs := [2]) (by kernel_rfl) (by simp) ?_
        refine AllReadyH.cons rfl (fun K hK => ?_) AllReadyH.nil
        go_simp
        have L9 := heap_alloc_new u8 (.cells #[.slice x.la x.left.length x.lc, .slice (some ⟨x.tb, 0, none⟩) x.tab.length x.tab.length] 89)
        have BA := below_alloc u8 (.cells #[.slice x.la x.left.length x.lc, .slice (some ⟨x.tb, 0, none⟩) x.tab.length x.tab.length] 89)
        obtain ⟨u9, hu⟩ : ∃ u9, u9 = u8.alloc (.cells #[.slice x.la x.left.length x.lc, .slice (some ⟨x.tb, 0, none⟩) x.tab.length x.tab.length] 89) := ⟨_, rfl⟩
        rw [← hu] at L9 BA ⊢
        obtain ⟨k9, hk9⟩ : ∃ k9, u8.heap.size = k9 := ⟨_, rfl⟩
        rw [hk9] at L9
        simp only [hk9]
        replace O7 := own_below O7 BA
        replace O8 := own_below O8 BA
        replace L8 := box_below L8 BA
        have A9 := (hH.1.below BA).cells
        clear hu hk9 BA
        refine hK.out _ _ (A9) (fun hH9 => ?_)
        clear hH
        have hH := hH9
        clear hH9 hK K
        try (conv => arg 8; simp only [Act.put, List.setIfInBounds_toArray, List.set_cons_zero, List.set_cons_succ])
        clear A9
        refine wpAnyH_ready (rs := [3]) (by kernel_rfl) (by simp) ?_
        refine AllReadyH.cons rfl (fun K hK => ?_) AllReadyH.nil
        refine step_append_lies _ (by rfl) _ _ _ (by rfl) w.heap.size 89 iW _ 2 48 Tryz.underlying84 hiW hzW0 hzW1 hzW2 rfl (by omega) (.slice va7 ws.length vc7) _ _ (by rfl) O7 ⟨k9, 0, none⟩ 1 1 [.slice x.la x.left.length x.lc, .slice (some ⟨x.tb, 0, none⟩) x.tab.length x.tab.length] (by rfl) (by rfl) (World.news_of_block (cs := #[.slice x.la x.left.length x.lc, .slice (some ⟨x.tb, 0, none⟩) x.tab.length x.tab.length]) L9) (by simp [Value.oneCell']) (by omega) (by unfold maxLen; omega) (by omega) hH.1.le _ rfl ?_
        intro g10 q10 u10 O9 gr9 l9 lt9
        replace O8 := World.ownsRow.kept O8 gr9 (own_apart O8 O7 (by decide))
        replace L8 := box_grown L8 gr9 (own_ne_box O7 L8 (by decide))
        have A9 := (hH.1.app O7 (by decide) (by decide) hg7 gr9).cells
        replace O7 := O9
        clear O9 gr9 l9 lt9 L9
        refine hK.out _ _ (A9) (fun hH9 => ?_)
        clear hH
        have hH := hH9
        clear hH9 hK K
        try (conv => arg 8; simp only [Act.put, List.setIfInBounds_toArray, List.set_cons_zero, List.set_cons_succ])
        clear A9
        refine wpAnyH_ready (rs := [8]) (by kernel_rfl) (by simp) ?_
        refine AllReadyH.cons rfl (fun K hK => ?_) AllReadyH.nil
        refine step_append_lies _ (by rfl) _ _ _ (by rfl) w.heap.size 27 iI _ 1 24 Tryz.underlying31 hiI hzI0 hzI1 hzI2 rfl (by omega) (.slice va8 ws.length vc8) _ _ (by rfl) O8 ⟨k8, 0, none⟩ 1 1 [.slice (some ⟨x.tb, 0, none⟩) x.tab.length x.tab.length] (by rfl) (by rfl) (World.news_of_block (cs := #[.slice (some ⟨x.tb, 0, none⟩) x.tab.length x.tab.length]) L8) (by simp [Value.oneCell']) (by omega) (by unfold maxLen; omega) (by omega) hH.1.le _ rfl ?_
        intro g11 q11 u11 O9 gr9 l9 lt9
        replace O7 := World.ownsRow.kept O7 gr9 (own_apart O7 O8 (by decide))
        have A9 := (hH.1.app O8 (by decide) (by decide) (own_ne_box O8 hH.1.box (by decide)) gr9).cells
        replace O8 := O9
        clear O9 gr9 l9 lt9 L8
        refine hK.out _ _ (A9) (fun hH9 => ?_)
        clear hH
        have hH := hH9
        clear hH9 hK K
        try (conv => arg 8; simp only [Act.put, List.setIfInBounds_toArray, List.set_cons_zero, List.set_cons_succ])
        clear A9
        refine takeH11 (i := 9) (d := some 7) (v := .slice (some ⟨g10, 0, none⟩) (ws.length + 1) q10) rfl rfl (by kernel_rfl) (by kernel_rfl) (by kernel_rfl) (fun _ _ _ h => h) (Or.inl ⟨by rfl, fun w9 hSw => ?_⟩) hH ?_
        · (try dsimp only at hSw); go_simp
        conv => arg 8; simp only [Act.put, List.setIfInBounds_toArray, List.set_cons_zero, List.set_cons_succ]
        refine takeH11 (i := 10) (d := some 8) (v := .slice (some ⟨g11, 0, none⟩) (ws.length + 1) q11) rfl rfl (by kernel_rfl) (by kernel_rfl) (by kernel_rfl) (fun _ _ _ h => h) (Or.inl ⟨by rfl, fun w9 hSw => ?_⟩) hH ?_
        · (try dsimp only at hSw); go_simp
        conv => arg 8; simp only [Act.put, List.setIfInBounds_toArray, List.set_cons_zero, List.set_cons_succ]
        refine wpAnyH_done (by kernel_rfl) ?_ _
        have HF7 := hide O7
        have HF8 := hide O8
        have HFW := hide hH.1.wo
        have HFB := hide hH.1.bel
        clear O7 O8 hH  
        go_wp2
        go_roundw
        case rel => exact ⟨k + 1, ws ++ [x], by omega, by go_num, hide (by rw [List.length_append, unhide HWL]; rfl), hide ((unhide HC).snoc (unhide HWL) (unhide HX) (unhide HY) ((unhide HXL).trans (unhide HLW).symm) (unhide HXT)), by rw [List.length_append, List.flatMap_append]; simpa [encW] using unhide HF7, by rw [List.length_append, List.map_append]; simpa [sv, pts] using unhide HF8, unhide HFW, unhide HFB⟩
        case measure => simp [intOf]; omega
    · have HWN : Hid (ws.length = l.length) := by
        show _ = _
        rw [unhide HWL]
        omega
      by_cases h0 : l.length = 0
      · obtain rfl : ws = [] := List.eq_nil_of_length_eq_zero (by have := unhide HWN; omega)
        have HT : Hid (G.tabs (G.out so (G.left l ls)).ids l ls = []) := by
          show _ = _
          obtain rfl : l = [] := List.eq_nil_of_length_eq_zero h0
          rfl
        have HV8 : TlO w.heap.size wr u8 [] := ⟨[], by simpa using hown8, rfl, fun i s t hs => by simp at hs⟩
        have HV8 := hide HV8
        have CL : ∀ w1, wr.heap.size ≤ w1.heap.size → Calls Tryz.prog 50 #[u7, .bool so] w1 fun e w' => e = .returned (.pointer none) ∧ Below w1.heap.size w1 w' := fun w1 _ => by
          rcases hown7.2 with ⟨rfl, -⟩ | ⟨g, cp, cur, rfl, -, -, -, hm, -⟩
          · exact least_none so w1
          · have := leastM_any g cp [] so w1 ⟨_, _, rfl, Nat.zero_le _, hm, (fun h => by cases h), fun x hx i y hi => by simp at hi⟩ (fun x hx => by cases hx) none rfl
            exact this
        clear hown7 hown8 hwo
        go_wp2_with fail
        refine (CL wr (Nat.le_refl _)).mono ?_
        rintro e w1 ⟨rfl, B1⟩
        clear CL
        go_wp2
        go_loopw [12, 13] (fun pv fv wx => fv = .pointer none ∧ Below wr.heap.size wr wx) (fun _ _ _ => 0)
        case atStart => exact ⟨rfl, B1⟩
        case round =>
          obtain ⟨rfl, hbx⟩ := hrel
          go_wp2
          go_ret
          rw [unhide HT]
          exact ⟨_, rfl, (unhide HV8).below hbx, below_trans' hbel hbx⟩
      · obtain ⟨wb, cp, hv7, -, -⟩ := hown7.form (by have := unhide HWN; omega)
        subst hv7
        have HS := hwo.s2 hown7 hown8
        have HC2 := hide ((unhide HC).start (G.pl (G.out so (G.left l ls)).ids))
        have CL : ∀ (w1 : World) (ws1 : List Wk), S2 w.heap.size w1 wb cp u8 ws1 → ws1.length = l.length → ∀ r, G.lst so (ws1.map (·.left)) 0 none = r → Calls Tryz.prog 50 #[.slice (some ⟨wb, 0, none⟩) l.length cp, .bool so] w1 fun e w' => e = .returned (ptr wb r) ∧ Below w1.heap.size w1 w' := fun w1 ws1 h9 hn r hr => by
          have := leastM_any wb cp ws1 so w1 (Kl.owned encW_len (by decide) h9.row) h9.docs r hr
          rw [hn] at this
          exact this
        obtain ⟨r0, hr0⟩ : ∃ r0, G.lst so (ws.map (·.left)) 0 none = r0 := ⟨_, rfl⟩
        have C0 := CL wr ws HS (unhide HWN) r0 hr0
        obtain ⟨M, hM⟩ : ∃ M, (G.left l ls).length = M := ⟨_, rfl⟩
        have hM64 : M ≤ 64 := by rw [← hM]; exact (unhide HGD).len
        have HM := hide hM
        have HR0 := hide hr0
        have HSS := hide HS
        rw [unhide HWN]
        clear hown7 hown8 hwo hr0 hM HS
        go_wp2_with fail
        refine C0.mono ?_
        rintro e w1 ⟨rfl, B1⟩
        have S1 := (unhide HSS).below B1
        have BB1 := below_trans' hbel B1
        clear C0 B1 hbel HSS
        go_wp2
        go_loopw [12, 13] (fun pv fv wx => ∃ (p : Nat) (ws1 : List Wk) (r : Option (Nat × Dc)), p ≤ M ∧ pv = .int .i64 p ∧ fv = ptr wb r ∧ Hid (ws1.length = l.length) ∧ Hid (C2 so l ls (G.pl (G.out so (G.left l ls)).ids) p ws1) ∧ Hid (G.lst so (ws1.map (·.left)) 0 none = r) ∧ S2 w.heap.size wx wb cp u8 ws1 ∧ Below w.heap.size w wx) (fun pv _ _ => M - (intOf pv).toNat)
        case atStart => exact ⟨0, ws, r0, Nat.zero_le _, rfl, rfl, HWN, HC2, HR0, S1, BB1⟩
        case round =>
          clear S1 BB1 HC2 HR0
          obtain ⟨p, ws1, r, hp, rfl, rfl, HN1, HC2, HR, hS, hbx⟩ := hrel
          by_cases hpm : p < M
          · obtain ⟨i, k9, x, t, g1, g2, g3, g4, g5⟩ := C2.next (unhide HGD) (unhide HC2) (unhide HN1) (by rw [unhide HM]; exact hpm)
            obtain rfl : r = some (i, x) := by rw [← unhide HR]; exact g3
            obtain ⟨la, lc, lk, tb, tab⟩ := k9
            simp only at g2 g4 g5
            obtain ⟨db, df, hla, hdb, hlc, hmc, d0, d1, d2, d3⟩ := (hS.docs _ (List.mem_of_getElem? g1)).first g2
            simp only at hla hlc hmc
            subst hla
            obtain ⟨c0, c1, hwb⟩ := walk_at (Kl.owned encW_len (by decide) hS.row) g1
            have hKd := hS.docs _ (List.mem_of_getElem? g1)
            unfold Ds at hKd
            simp only at hKd c0 c1
            subst g2
            obtain ⟨la', hs, hblk, hK⟩ := Kl.tail11 hKd
            have hfz := hS.row.frozenAt (i * 2)
            obtain ⟨m, hm⟩ : ∃ m, (x :: t).length = m := ⟨_, rfl⟩
            have hmt : m - 1 = t.length := by rw [← hm]; simp
            have hm0 : 0 < m := by rw [← hm]; simp
            rw [hm] at c0 hs hK
            have CP := pass_any wb i db df m lc la' x wr.drew hwb hdb c0 hfz hm0 hs d0 d1 d2 d3
            have ST := fun w2 hb => (hS.below (Below.refl _ _).drew).step (p := (p : Int)) (w2 := w2) (m := m - 1) g1 g4 hmt hblk hK hb
            have hmt' := hide hmt
            have hwbB : w.heap.size ≤ wb := (hS.row.lt wb rfl).1
            have htbB : w.heap.size ≤ tb := ((hS.tabs _ (List.mem_of_getElem? g1)).lt tb rfl).1
            have hbs := hbx.size
            have HBX := hide hbx
            have G5 := hide (g5 la' (lc - 1))
            obtain ⟨mt, hmt9⟩ : ∃ mt, tab.length = mt := ⟨_, rfl⟩
            have ST2 := hide ST
            have q1 : x.d < mt := by rw [← hmt9]; exact g4
            have q2 : (x.d : Int) < (mt : Int) := by omega
            rw [hmt9] at c1
            have HMT := hide hmt9
            have HC1 := hide (show wr.drew.cell? ⟨wb, i * 2 + 1, none⟩ = some (.slice (some ⟨tb, 0, none⟩) mt mt) from c1)
            clear g1 g3 g5 hKd hs hK hblk hm hmt hfz c0 ST d0 d1 d2 d3 hlc hmc g4 hmt9
            have hfld := run_field11 x
            unfold ptr
            go_wp2
            go_region_held3 (fun w' => w'.cell? ⟨wb, i * 2 + 1, none⟩ = some (.slice (some ⟨tb, 0, none⟩) mt mt))
              (first | exact unhide HC1 | exact T5 | exact T7)
              ((go_at_call 51; refine CP.mono ?_; rintro e w9 ⟨rfl, B9⟩; obtain ⟨T2, T3, T4, T5, T6⟩ := (unhide ST2) w9 B9; rw [unhide HMT] at T5; have T7 : (w9.setCell ⟨tb, x.d, none⟩ (.int .i64 p)).cell? ⟨wb, i * 2 + 1, none⟩ = some (.slice (some ⟨tb, 0, none⟩) mt mt) := (World.cell?_of_block (set_heap_ne (p := ⟨tb, x.d, none⟩) (Ne.symm T6) _)).trans T5))
            have BX : Below w.heap.size w (w9.setCell ⟨tb, x.d, none⟩ (.int .i64 p)) := (((((unhide HBX).drew).setCell (p := ⟨wb, i * 2, none⟩) hwbB _).trans (B9.mono hbs))).setCell htbB _
            obtain ⟨V, hV⟩ : ∃ V, V = w9.setCell ⟨tb, x.d, none⟩ (.int .i64 p) := ⟨_, rfl⟩
            rw [← hV] at T2 BX ⊢
            obtain ⟨ws2, hws2⟩ : ∃ ws2, ws1.set i ⟨la', lc - 1, t, tb, tab.set x.d (p : Int)⟩ = ws2 := ⟨_, rfl⟩
            have G6 := unhide G5
            rw [hws2] at T2 G6
            have HN2 : Hid (ws2.length = l.length) := by
              show _ = _
              rw [← hws2, List.length_set]
              exact unhide HN1
            obtain ⟨r1, hr1⟩ : ∃ r1, G.lst so (ws2.map (·.left)) 0 none = r1 := ⟨_, rfl⟩
            have CN := CL V ws2 T2 (unhide HN2) r1 hr1
            have G7 := hide G6
            have HR1 := hide hr1
            have HT2 := hide T2
            have HBV := hide BX
            clear T2 T3 T4 T5 T7 T6 B9 c1 HC1 CP ST2 hS hbx G5 G6 hr1 hws2 hV BX hfld q1 q2 hdb hwb
            go_wp2_with fail
            refine CN.mono ?_
            rintro e w10 ⟨rfl, B10⟩
            have S10 := hide ((unhide HT2).below B10)
            have BB10 := hide (below_trans' (unhide HBV) B10)
            clear CN B10
            go_wp2
            go_roundw
            case rel => exact ⟨p + 1, ws2, r1, by omega, by go_num, rfl, HN2, G7, HR1, unhide S10, unhide BB10⟩
            case measure => simp [intOf]; omega
          · obtain rfl : p = M := by omega
            have h9 := C2.stop (unhide HGD) (by rw [unhide HM]; exact unhide HC2) (unhide HN1)
            obtain rfl : r = none := by rw [← unhide HR]; exact h9.1
            have HTL := hS.tlo
            rw [h9.2] at HTL
            have HTL := hide HTL
            clear h9 hS
            unfold ptr
            go_wp2
            go_ret
            exact ⟨_, rfl, unhide HTL, hbx⟩
end Go.Proofs.YtnahjaloodeicaaGreat

/-
  The contract of Merge: one segment of what lives, and where each document went, or why not.
-/
namespace Go.Proofs.YtnahjaloodeicaaGreat
set_option maxRecDepth 100000
open Go.RowKit Go.Deep

namespace G
/-- Why no segment comes of cards; 0, if one does. -/
def errL (L : List Cd) : Int := if S.mayAll L = false then 1 else if 64 < L.length then 8 else if D.may (S.words L) = false then 8 else 0
def ErrIs (l : List Sq) (ls : List (List Bool)) (n : Int) : Prop := (¬ Right l ls ∧ n = 1) ∨ (Right l ls ∧ n = errL (left l ls))
theorem ErrIs.one {l : List Sq} {ls : List (List Bool)} {n m : Int} (h : ErrIs l ls n) (k : ErrIs l ls m) : n = m := by
  rcases h with ⟨h1, h2⟩ | ⟨h1, h2⟩ <;> rcases k with ⟨k1, k2⟩ | ⟨k1, k2⟩
  · rw [h2, k2]
  · exact absurd k1 h1
  · exact absurd h1 k1
  · rw [h2, k2]
theorem build_eq (L : List Cd) (so : Bool) : S.build L so = if errL L = 0 then (out so L, so, 0) else (Sg.none, false, errL L) := by
  unfold S.build errL
  split
  · rw [if_neg (by decide)]
  · split
    · rw [if_neg (by decide)]
    · split
      · rw [if_neg (by decide)]
      · rw [if_pos rfl]; rfl
theorem errL_good {l : List Sq} {ls : List (List Bool)} (hR : Right l ls) (h : errL (left l ls) = 0) : Good l ls := by
  have hb := build_eq (left l ls) false
  rw [if_pos h] at hb
  obtain ⟨LL, -, hV, -, hU, hp, hl, -⟩ := build_ok hb rfl
  refine ⟨hR, hU, hl, ?_⟩
  have := hV.2.few
  rwa [S.words_perm hp] at this
theorem good_errL {l : List Sq} {ls : List (List Bool)} (h : Good l ls) : errL (left l ls) = 0 := by
  have h1 : S.mayAll (left l ls) = true := by
    unfold S.mayAll
    rw [Bool.and_eq_true, List.all_eq_true, decide_eq_true_eq]
    exact ⟨h.right.fit, unl_ids h.unl⟩
  unfold errL
  rw [if_neg (by rw [h1]; decide), if_neg (by have := h.len; omega), if_neg]
  rw [S.words_may h.right.fit, decide_eq_true h.few]
  decide
theorem ErrIs.good {l : List Sq} {ls : List (List Bool)} {n : Int} (h : ErrIs l ls n) (h0 : n = 0) : Good l ls := by
  rcases h with ⟨h1, h2⟩ | ⟨h1, h2⟩
  · omega
  · exact errL_good h1 (by omega)
theorem Good.err {l : List Sq} {ls : List (List Bool)} {n : Int} (hG : Good l ls) (h : ErrIs l ls n) : n = 0 := by
  rcases h with ⟨h1, h2⟩ | ⟨h1, h2⟩
  · exact absurd hG.right h1
  · rw [h2, good_errL hG]
end G

/-- A segment comes of it, and the tables. -/
def MrgOk (w : World) (l : List G.Sq) (ls : List (List Bool)) (so : Bool) (e : Ending) (w' : World) : Prop :=
  ∃ (ia ka lna ta : Option Addr) (ic kc lnc tc : Nat) (tv : Value) (s : Sg), s = G.out so (G.left l ls) ∧ e = .returned (.tuple #[.agg #[.slice ia s.ids.length ic, .slice ka s.keys.length kc, .slice lna s.lens.length lnc, .slice ta s.ts.length tc, .bool so], tv, .int .i64 0]) ∧
    Sv w' (.slice ia s.ids.length ic) (.slice ka s.keys.length kc) (.slice lna s.lens.length lnc) (.slice ta s.ts.length tc) s ∧ TlO w.heap.size w' tv (G.tabs s.ids l ls)
def MrgEnd (w : World) (l : List G.Sq) (ls : List (List Bool)) (so : Bool) (e : Ending) (w' : World) : Prop :=
  ∃ n : Int, G.ErrIs l ls n ∧ ((n = 0 ∧ MrgOk w l ls so e w') ∨ (n ≠ 0 ∧ e = .returned (.tuple #[.agg #[.slice none 0 0, .slice none 0 0, .slice none 0 0, .slice none 0 0, .bool false], .slice none 0 0, .int .i64 n]))) ∧ Below w.heap.size w w'

set_option maxRecDepth 100000 in
set_option maxHeartbeats 8000000 in
theorem mergeM_any (v u : Value) (l : List G.Sq) (ls : List (List Bool)) (so : Bool) (w : World) (hl : Gs w v l) (hb : Bll w u ls) (hbig : Big l) (hlen : l.length ≤ 4294967295) (hleft : G.Right l ls → (G.left l ls).length ≤ 4294967295) :
    Calls Tryz.prog 10 #[v, u, .bool so] w (MrgEnd w l ls so) := by
  obtain ⟨W, hW⟩ : ∃ W, W = w.alloc (.cells #[.slice none 0 0, .slice none 0 0, .slice none 0 0, .slice none 0 0, .bool false] 30) := ⟨_, rfl⟩
  have BW : Below w.heap.size w W := by rw [hW]; exact below_alloc _ _
  have X0 : W.heap[w.heap.size]? = some (.cells #[.slice none 0 0, .slice none 0 0, .slice none 0 0, .slice none 0 0, .bool false] 30 (0, 0)) := by rw [hW]; exact heap_alloc_new w _
  have CM := mayM_any v u l ls W (hl.below BW) (hb.below BW) hbig
  have HG := hide (hl.below BW)
  have HB := hide (hb.below BW)
  have HLE := hide hleft
  obtain ⟨a, cap, rfl, -⟩ := hl.open
  obtain ⟨a2, cap2, rfl, -⟩ := hb.at
  have HW := hide hW
  clear hl hb hbig hleft hW
  go_enter Tryz.func10, Tryz.ntmps10
  go_wp2_with fail
  rw [← unhide HW]
  refine CM.mono ?_
  rintro e w1 ⟨r, rfl, hr, B1⟩
  have BB1 := below_trans' BW B1
  have X1 := box_below X0 B1
  clear CM
  cases r with
  | false =>
    have HN : Hid (¬ G.Right l ls) := fun h9 => by have := hr.2 h9; cases this
    have x0 := box_cell X1 (j := 0) rfl
    have x1 := box_cell X1 (j := 1) rfl
    have x2 := box_cell X1 (j := 2) rfl
    have x3 := box_cell X1 (j := 3) rfl
    have x4 := box_cell X1 (j := 4) rfl
    have f0 := bfro X1 0
    have f1 := bfro X1 1
    have f2 := bfro X1 2
    have f3 := bfro X1 3
    have f4 := bfro X1 4
    have BE := five_below (.slice none 0 0) (.slice none 0 0) (.slice none 0 0) (.slice none 0 0) (.bool false) BB1 (Nat.le_refl _)
    unfold five at BE
    clear hr X1 X0 B1 BB1
    go_wp2
    exact bodyPost_ret (v := .tuple #[.agg #[.slice none 0 0, .slice none 0 0, .slice none 0 0, .slice none 0 0, .bool false], .slice none 0 0, .int .i64 1]) (by simp [results, Tryz.results10, go_sem, x0, x1, x2, x3, x4]) rfl ⟨1, .inl ⟨unhide HN, rfl⟩, .inr ⟨by decide, rfl⟩, BE⟩
  | true =>
    have HR := hide (hr.1 rfl)
    have CC := cardsM_any _ _ l ls w1 ((unhide HG).below B1) ((unhide HB).below B1) (unhide HR) ((unhide HLE) (unhide HR))
    have HG1 := hide ((unhide HG).below B1)
    have HB1 := hide ((unhide HB).below B1)
    clear hr X0 B1
    go_wp2_with fail
    refine CC.mono ?_
    rintro e w2 ⟨cv, rfl, H2, B2⟩
    obtain ⟨n, hn⟩ : ∃ n, G.errL (G.left l ls) = n := ⟨_, rfl⟩
    have hbe := G.build_eq (G.left l ls) so
    rw [hn] at hbe
    have hcl : (G.left l ls).length ≤ 4398046511104 := by have := (unhide HLE) (unhide HR); omega
    have BB2 := below_trans' BB1 B2
    have X2 := box_below X1 B2
    have HG2 := hide ((unhide HG1).below B2)
    have HB2 := hide ((unhide HB1).below B2)
    have HNN := hide hn
    by_cases h0 : n = 0
    · subst h0
      rw [if_pos rfl] at hbe
      have CBD := build_any cv _ so w2 H2 hcl _ hbe
      obtain ⟨ca, cc, rfl, -⟩ := id H2.open
      clear CC H2 B2 BB1 X1 hbe hn hcl
      go_wp2_with fail
      refine CBD.mono ?_
      rintro e w3 ⟨iv, kv, lv, tv, rfl, S3, B3⟩
      simp only at S3
      obtain ⟨s, hs⟩ : ∃ s, G.out so (G.left l ls) = s := ⟨_, rfl⟩
      rw [hs] at S3
      obtain ⟨ia, ka, lna, ta, ic, kc, lnc, tc, rfl, rfl, rfl, rfl⟩ := S3.shape
      have BB3 := below_trans' BB2 B3
      have X3 := box_below X2 B3
      have hzz : w.heap.size < w3.heap.size := (Array.getElem?_eq_some_iff.1 X3).1
      obtain ⟨W3, hW3⟩ : ∃ W3, W3 = w3.alloc (.cells #[.slice ia s.ids.length ic, .slice ka s.keys.length kc, .slice lna s.lens.length lnc, .slice ta s.ts.length tc, .bool so] 30) := ⟨_, rfl⟩
      have BW3 : Below w3.heap.size w3 W3 := by rw [hW3]; exact below_alloc _ _
      have Y3 : W3.heap[w3.heap.size]? = some (.cells #[.slice ia s.ids.length ic, .slice ka s.keys.length kc, .slice lna s.lens.length lnc, .slice ta s.ts.length tc, .bool so] 30 (0, 0)) := by rw [hW3]; exact heap_alloc_new w3 _
      have hGd := G.errL_good (unhide HR) (unhide HNN)
      have CT := tablesM_any _ _ l ls so W3.drew (((unhide HG2).below B3).below BW3 |>.below (Below.refl _ _).drew) (((unhide HB2).below B3).below BW3 |>.below (Below.refl _ _).drew) hGd hlen
      rw [hs] at CT
      have HGD := hide hGd
      have HS := hide hs
      have HS3 := hide (S3.below BW3)
      have HX3 := hide (box_below X3 BW3)
      have HBB3 := hide (below_trans' BB3 BW3)
      have HW3 := hide hW3
      have KB : ∀ w' : World, Below W3.heap.size W3 w' → w'.cell? ⟨w3.heap.size, 0, none⟩ = some (.slice ia s.ids.length ic) ∧ w'.cell? ⟨w3.heap.size, 1, none⟩ = some (.slice ka s.keys.length kc) ∧ w'.cell? ⟨w3.heap.size, 2, none⟩ = some (.slice lna s.lens.length lnc) ∧ w'.cell? ⟨w3.heap.size, 3, none⟩ = some (.slice ta s.ts.length tc) ∧ w'.cell? ⟨w3.heap.size, 4, none⟩ = some (.bool so) := fun w' hb => by
        have := box_below Y3 hb
        exact ⟨box_cell this (j := 0) rfl, box_cell this (j := 1) rfl, box_cell this (j := 2) rfl, box_cell this (j := 3) rfl, box_cell this (j := 4) rfl⟩
      have HKB := hide KB
      have hs3 : W3.heap.size = w3.heap.size + 1 := by rw [hW3]; simp
      have HS4 := hide hs3
      clear CBD B3 BB2 X2 S3 hs X3 BB3 BW3 Y3 hGd KB hs3 hW3
      go_upto_region 6 with fail
      rw [← unhide HW3]
      go_region_held3 (fun w' => w'.cell? ⟨w3.heap.size, 0, none⟩ = some (.slice ia s.ids.length ic) ∧ w'.cell? ⟨w3.heap.size, 1, none⟩ = some (.slice ka s.keys.length kc) ∧ w'.cell? ⟨w3.heap.size, 2, none⟩ = some (.slice lna s.lens.length lnc) ∧ w'.cell? ⟨w3.heap.size, 3, none⟩ = some (.slice ta s.ts.length tc) ∧ w'.cell? ⟨w3.heap.size, 4, none⟩ = some (.bool so))
        (first | with_reducible assumption | exact unhide HKB _ (Below.refl _ _).drew)
        ((go_at_call 26; refine CT.mono ?_; rintro e w4 ⟨tbv, rfl, T4, B4'⟩; have B4 : Below W3.heap.size W3 w4 := below_trans' (Below.refl _ _).drew B4'; have XN := box_below (unhide HX3) B4; have x0 := box_cell XN (j := 0) rfl; have x1 := box_cell XN (j := 1) rfl; have x2 := box_cell XN (j := 2) rfl; have x3 := box_cell XN (j := 3) rfl; have x4 := box_cell XN (j := 4) rfl; have f0 := bfro XN 0; have f1 := bfro XN 1; have f2 := bfro XN 2; have f3 := bfro XN 3; have f4 := bfro XN 4;
          have KF : (five w4 w.heap.size (.slice ia s.ids.length ic) (.slice ka s.keys.length kc) (.slice lna s.lens.length lnc) (.slice ta s.ts.length tc) (.bool so)).cell? ⟨w3.heap.size, 0, none⟩ = some (.slice ia s.ids.length ic) ∧ (five w4 w.heap.size (.slice ia s.ids.length ic) (.slice ka s.keys.length kc) (.slice lna s.lens.length lnc) (.slice ta s.ts.length tc) (.bool so)).cell? ⟨w3.heap.size, 1, none⟩ = some (.slice ka s.keys.length kc) ∧ (five w4 w.heap.size (.slice ia s.ids.length ic) (.slice ka s.keys.length kc) (.slice lna s.lens.length lnc) (.slice ta s.ts.length tc) (.bool so)).cell? ⟨w3.heap.size, 2, none⟩ = some (.slice lna s.lens.length lnc) ∧ (five w4 w.heap.size (.slice ia s.ids.length ic) (.slice ka s.keys.length kc) (.slice lna s.lens.length lnc) (.slice ta s.ts.length tc) (.bool so)).cell? ⟨w3.heap.size, 3, none⟩ = some (.slice ta s.ts.length tc) ∧ (five w4 w.heap.size (.slice ia s.ids.length ic) (.slice ka s.keys.length kc) (.slice lna s.lens.length lnc) (.slice ta s.ts.length tc) (.bool so)).cell? ⟨w3.heap.size, 4, none⟩ = some (.bool so) := (by
            have hk := unhide HKB _ B4
            have ho := off_five w4 w.heap.size (.slice ia s.ids.length ic) (.slice ka s.keys.length kc) (.slice lna s.lens.length lnc) (.slice ta s.ts.length tc) (.bool so)
            have hne : w3.heap.size ≠ w.heap.size := by omega
            exact ⟨(ho ⟨w3.heap.size, 0, none⟩ hne).trans hk.1, (ho ⟨w3.heap.size, 1, none⟩ hne).trans hk.2.1, (ho ⟨w3.heap.size, 2, none⟩ hne).trans hk.2.2.1, (ho ⟨w3.heap.size, 3, none⟩ hne).trans hk.2.2.2.1, (ho ⟨w3.heap.size, 4, none⟩ hne).trans hk.2.2.2.2⟩); unfold five at KF; have K4 := unhide HKB _ B4))
      have SE := hide (((unhide HS3).below B4).off (bxk_of (a := (none, 0, 0)) (b := (none, 0, 0)) (c := (none, 0, 0)) (d := (none, 0, 0)) XN) (off_five w4 w.heap.size (.slice ia s.ids.length ic) (.slice ka s.keys.length kc) (.slice lna s.lens.length lnc) (.slice ta s.ts.length tc) (.bool so)))
      have TE := hide ((T4.five (g := w.heap.size) (show w.heap.size < W3.heap.size by have := unhide HS4; omega) (.slice ia s.ids.length ic) (.slice ka s.keys.length kc) (.slice lna s.lens.length lnc) (.slice ta s.ts.length tc) (.bool so)).mono (show w.heap.size ≤ W3.heap.size by have := unhide HS4; omega))
      have BE := hide (five_below (.slice ia s.ids.length ic) (.slice ka s.keys.length kc) (.slice lna s.lens.length lnc) (.slice ta s.ts.length tc) (.bool so) (below_trans' (unhide HBB3) B4) (Nat.le_refl _))
      clear KF T4 B4 B4' XN
      go_wp2
      exact bodyPost_ret (v := .tuple #[.agg #[.slice ia s.ids.length ic, .slice ka s.keys.length kc, .slice lna s.lens.length lnc, .slice ta s.ts.length tc, .bool so], tbv, .int .i64 0]) (by simp [results, Tryz.results10, go_sem, x0, x1, x2, x3, x4]) rfl
        ⟨0, .inr ⟨unhide HR, (unhide HNN).symm⟩, .inl ⟨rfl, ia, ka, lna, ta, ic, kc, lnc, tc, tbv, s, (unhide HS).symm, rfl, unhide SE, unhide TE⟩, unhide BE⟩
    · rw [if_neg h0] at hbe
      have CBD := build_any cv _ so w2 H2 hcl _ hbe
      obtain ⟨ca, cc, rfl, -⟩ := id H2.open
      clear CC H2 B2 BB1 X1 hbe hn hcl
      go_wp2_with fail
      refine CBD.mono ?_
      rintro e w3 ⟨iv, kv, lv, tv, rfl, S3, B3⟩
      simp only at S3
      obtain ⟨ia, ka, lna, ta, ic, kc, lnc, tc, rfl, rfl, rfl, rfl⟩ := S3.shape
      have BB3 := below_trans' BB2 B3
      have X3 := box_below X2 B3
      have XN := X3
      have hzz : w.heap.size < w3.heap.size := (Array.getElem?_eq_some_iff.1 X3).1
      have hne : (n != 0) = true := by simpa using h0
      have x0 := box_cell XN (j := 0) rfl
      have x1 := box_cell XN (j := 1) rfl
      have x2 := box_cell XN (j := 2) rfl
      have x3 := box_cell XN (j := 3) rfl
      have x4 := box_cell XN (j := 4) rfl
      have f0 := bfro XN 0
      have f1 := bfro XN 1
      have f2 := bfro XN 2
      have f3 := bfro XN 3
      have f4 := bfro XN 4
      have BE := five_below (.slice none 0 0) (.slice none 0 0) (.slice none 0 0) (.slice none 0 0) (.bool false) BB3 (Nat.le_refl _)
      unfold five at BE
      have HBE := hide BE
      rw [show Sg.none.ids.length = 0 from rfl, show Sg.none.keys.length = 0 from rfl, show Sg.none.lens.length = 0 from rfl, show Sg.none.ts.length = 0 from rfl]
      clear CBD B3 BB2 X2 S3 X3 XN BB3 BE
      go_wp2
      refine bodyPost_ret (v := .tuple #[.agg #[.slice none 0 0, .slice none 0 0, .slice none 0 0, .slice none 0 0, .bool false], .slice none 0 0, .int .i64 n]) (by simp [results, Tryz.results10, go_sem, x0, x1, x2, x3, x4, hzz]) rfl ⟨n, .inr ⟨unhide HR, (unhide HNN).symm⟩, .inr ⟨h0, rfl⟩, ?_⟩
      exact below_all (unhide HBE) _
end Go.Proofs.YtnahjaloodeicaaGreat

/-
  The contracts of the statements' own Few and Tables.
-/
namespace Go.Proofs.YtnahjaloodeicaaGreat
set_option maxRecDepth 100000
open Go.RowKit Go.Deep

def FewM (l : List G.Sq) (ls : List (List Bool)) : Prop := l.length ≤ 6 ∧ ls.length ≤ 6 ∧ ∀ s ∈ l, FewS s.1
def FewMEnd (w : World) (l : List G.Sq) (ls : List (List Bool)) (e : Ending) (w' : World) : Prop := ∃ r : Bool, e = .returned (.bool r) ∧ (r = true → FewM l ls) ∧ Below w.heap.size w w'
theorem fewm_no {w w' : World} {l : List G.Sq} {ls : List (List Bool)} (hb : Below w.heap.size w w') : FewMEnd w l ls (.returned (.bool false)) w' := ⟨false, rfl, (fun h => by cases h), hb⟩
theorem FewM.big {l : List G.Sq} {ls : List (List Bool)} (h : FewM l ls) : Big l := fun s hs => ⟨fun x hx => by have := (h.2.2 s hs).1 x hx; unfold maxLen; omega, by have := (h.2.2 s hs).2; omega⟩
theorem G.alive_le {α : Type} (l : List α) (a : List Bool) : (G.alive l a).length ≤ l.length := (G.alive_sub l a).length_le
theorem G.left_le : ∀ {l : List G.Sq} {ls : List (List Bool)}, G.Right l ls → (G.left l ls).length ≤ l.length * 64
  | [], _, _ => by simp [G.left]
  | _ :: _, [], _ => by simp [G.left]
  | s :: l, a :: ls, h => by
    obtain ⟨⟨h1, h2⟩, h3⟩ := h.tail
    have ih := G.left_le h3
    have := G.alive_le (S.crd s.1) a
    rw [S.crd_len] at this
    have := h1.heads.n64
    simp only [G.left, List.length_append, List.length_cons]
    omega
theorem FewM.left {l : List G.Sq} {ls : List (List Bool)} (h : FewM l ls) (hR : G.Right l ls) : (G.left l ls).length ≤ 4294967295 := by
  have := G.left_le hR
  have := h.1
  omega
theorem FewM.len {l : List G.Sq} {ls : List (List Bool)} (h : FewM l ls) : l.length ≤ 4294967295 := by have := h.1; omega

set_option maxHeartbeats 2000000 in
theorem fewM_any (v u : Value) (l : List G.Sq) (ls : List (List Bool)) (w : World) (hl : Gs w v l) (hb : Bll w u ls) :
    Calls Tryz.prog 9 #[v, u] w (FewMEnd w l ls) := by
  have HG := hl
  have HB := hb
  obtain ⟨a, cap, rfl, h1, h2, hna, -⟩ := hl.open
  obtain ⟨a2, cap2, rfl, h3, h4, -⟩ := hb.at
  clear hl hb
  by_cases n1 : 6 < l.length
  · have n1' : (6 : Int) < (l.length : Int) := by omega
    clear HG HB
    go_enter Tryz.func9, Tryz.ntmps9
    go_wp2
    go_ret
    exact fewm_no (Below.refl _ _)
  · by_cases n2 : 6 < ls.length
    · have n1' : ¬ (6 : Int) < (l.length : Int) := by omega
      have n2' : (6 : Int) < (ls.length : Int) := by omega
      clear HG HB
      go_enter Tryz.func9, Tryz.ntmps9
      go_wp2
      go_ret
      exact fewm_no (Below.refl _ _)
    · have n1' : ¬ (6 : Int) < (l.length : Int) := by omega
      have n2' : ¬ (6 : Int) < (ls.length : Int) := by omega
      go_enter Tryz.func9, Tryz.ntmps9
      go_wp2
      go_loopw [5] (fun iv wr => ∃ k : Nat, k ≤ l.length ∧ iv = .int .i64 k ∧ Hid (∀ i s, i < k → l[i]? = some s → FewS s.1) ∧ Below w.heap.size w wr) (fun iv _ => l.length - (intOf iv).toNat)
      case atStart => exact ⟨0, Nat.zero_le _, rfl, hide (fun i s hi => by omega), Below.refl _ _⟩
      case round =>
        obtain ⟨k, hk, rfl, HS, hbel⟩ := hrel
        by_cases hlt : k < l.length
        · obtain ⟨a', c', hv', -, -, -, ho⟩ := (HG.below hbel).open
          simp only [Value.slice.injEq, true_and] at hv'
          obtain ⟨rfl, rfl⟩ := hv'
          obtain ⟨b, off, rfl, hb, hc⟩ := ho (by omega)
          obtain ⟨s, hx⟩ : ∃ x, l[k]? = some x := ⟨_, List.getElem?_eq_getElem hlt⟩
          obtain ⟨ia, ka, lna, ta, ic, kc, lnc, tc, c0, c1, c2, c3, c4, hS⟩ := hc k s hx
          have CC := fewSeg_any ia ka lna ta ic kc lnc tc s.1 s.2 wr hS
          have HX := hide hx
          clear hc ho hx hS
          go_wp2_with fail
          refine CC.mono ?_
          rintro e w1 ⟨r, rfl, hr, B1⟩
          have BB := below_trans' hbel B1
          clear CC B1 c0 c1 c2 c3 c4
          cases r with
          | true =>
            have HF := hide (hr rfl)
            clear hr
            go_wp2
            go_roundw
            case rel =>
              refine ⟨k + 1, by omega, by go_num, hide (fun i s' hi h9 => ?_), BB⟩
              by_cases e : i = k
              · subst e
                rw [unhide HX] at h9
                cases h9
                exact unhide HF
              · exact unhide HS i s' (by omega) h9
            case measure => simp [intOf]; omega
          | false =>
            clear hr
            go_wp2
            go_ret
            exact fewm_no BB
        · have HF : Hid (FewM l ls) := ⟨by omega, by omega, fun s hs => by
            obtain ⟨i, hi⟩ := List.mem_iff_getElem?.1 hs
            exact unhide HS i s (by have := (List.getElem?_eq_some_iff.1 hi).1; omega) hi⟩
          clear HS
          rename World => w0
          go_wp2
          go_loopw [7] (fun iv wr => ∃ k : Nat, k ≤ ls.length ∧ iv = .int .i64 k ∧ Below w.heap.size w wr) (fun iv _ => ls.length - (intOf iv).toNat)
          case atStart => exact ⟨0, Nat.zero_le _, rfl, hbel⟩
          case round =>
            clear hbel
            obtain ⟨j, hj, rfl, hbel⟩ := hrel
            by_cases hlj : j < ls.length
            · obtain ⟨a', c', hv', -, -, ho⟩ := (HB.below hbel).at
              simp only [Value.slice.injEq, true_and] at hv'
              obtain ⟨rfl, rfl⟩ := hv'
              obtain ⟨b, off, rfl, hb, hc⟩ := ho (by omega)
              obtain ⟨t, hx⟩ : ∃ x, ls[j]? = some x := ⟨_, List.getElem?_eq_getElem hlj⟩
              obtain ⟨ya, yc, d0, -⟩ := hc j t hx
              clear hc ho hx
              by_cases h9 : 70 < t.length
              · have h9' : (70 : Int) < (t.length : Int) := by omega
                go_wp2
                go_ret
                exact fewm_no hbel
              · have h9' : ¬ (70 : Int) < (t.length : Int) := by omega
                go_wp2
                go_roundw
                case rel => exact ⟨j + 1, by omega, by go_num, hbel⟩
                case measure => simp [intOf]; omega
            · go_wp2
              go_ret
              exact ⟨true, rfl, fun _ => unhide HF, hbel⟩

set_option maxHeartbeats 2000000 in
theorem tablesL_any (v u : Value) (T : List (List Int)) (w : World) (hl : Tl w v T) (hb : Tl w u T) :
    Calls Tryz.prog 23 #[v, u] w fun e w' => e = .returned (.bool true) ∧ Below w.heap.size w w' := by
  have HG := hl
  have HB := hb
  obtain ⟨a, cap, rfl, h1, h2, -⟩ := hl.at
  obtain ⟨a2, cap2, rfl, h3, h4, -⟩ := hb.at
  clear hl hb
  have hne : ((T.length : Int) != (T.length : Int)) = false := by simp
  go_enter Tryz.func23, Tryz.ntmps23
  go_wp2
  go_loopw [5] (fun iv wr => ∃ k : Nat, k ≤ T.length ∧ iv = .int .i64 k ∧ Below w.heap.size w wr) (fun iv _ => T.length - (intOf iv).toNat)
  case atStart => exact ⟨0, Nat.zero_le _, rfl, Below.refl _ _⟩
  case round =>
    obtain ⟨k, hk, rfl, hbel⟩ := hrel
    by_cases hlt : k < T.length
    · obtain ⟨a', c', hv', -, -, ho⟩ := (HG.below hbel).at
      simp only [Value.slice.injEq, true_and] at hv'
      obtain ⟨rfl, rfl⟩ := hv'
      obtain ⟨b, off, rfl, hb, hc⟩ := ho (by omega)
      obtain ⟨a', c', hv', -, -, ho2⟩ := (HB.below hbel).at
      simp only [Value.slice.injEq, true_and] at hv'
      obtain ⟨rfl, rfl⟩ := hv'
      obtain ⟨b2, off2, rfl, hb2, hc2⟩ := ho2 (by omega)
      obtain ⟨t, hx⟩ : ∃ x, T[k]? = some x := ⟨_, List.getElem?_eq_getElem hlt⟩
      obtain ⟨xa, xc, c0, g0⟩ := hc k t hx
      obtain ⟨ya, yc, d0, g1⟩ := hc2 k t hx
      have CI := ints_b _ _ t t wr.drew ((Il.sl g0).below (Below.refl _ _).drew) ((Il.sl g1).below (Below.refl _ _).drew) true (by simp)
      have KB : ∀ w' : World, Below wr.heap.size wr w' → w'.cell? ⟨b, off + k, none⟩ = some (.slice xa t.length xc) ∧ w'.cell? ⟨b2, off2 + k, none⟩ = some (.slice ya t.length yc) := fun w' hb => ⟨cellK10 c0 hb, cellK10 d0 hb⟩
      have HKB := hide KB
      clear hc hc2 ho ho2 hx g0 g1 KB
      go_wp2
      go_region_held3 (fun w' => w'.cell? ⟨b, off + k, none⟩ = some (.slice xa t.length xc) ∧ w'.cell? ⟨b2, off2 + k, none⟩ = some (.slice ya t.length yc))
        (first | with_reducible assumption | exact unhide HKB _ (Below.refl _ _).drew)
        ((go_at_call 42; refine CI.mono ?_; rintro e w9 ⟨rfl, B9⟩; have K9 := unhide HKB w9 (below_trans' (Below.refl _ _).drew B9)))
      have BB := below_trans' hbel (below_trans' (Below.refl _ _).drew B9)
      clear B9 K9
      go_wp2
      go_roundw
      case rel => exact ⟨k + 1, by omega, by go_num, BB⟩
      case measure => simp [intOf]; omega
    · go_wp2
      go_ret
      exact ⟨rfl, hbel⟩
end Go.Proofs.YtnahjaloodeicaaGreat

/-
  The chapter's example (merge), as plain lists; literals of segments and of lists. No function of the program is named here.
-/
namespace Go.Proofs.YtnahjaloodeicaaGreat
set_option maxRecDepth 100000
open Go.RowKit Go.Deep

def xM : Cd := ⟨⟨#[120]⟩, 0, [⟨#[97]⟩]⟩
def yM : Cd := ⟨⟨#[121]⟩, 1, [⟨#[98]⟩, ⟨#[97]⟩]⟩
def zM : Cd := ⟨⟨#[122]⟩, 0, [⟨#[97]⟩]⟩
def aM : List Cd := [xM, yM]
def bM : List Cd := [zM]
def mM : List Cd := [yM, zM]
theorem bA_M : S.build aM false = (S.seg aM, false, 0) := by kernel_rfl
theorem bB_M : S.build bM false = (S.seg bM, false, 0) := by kernel_rfl
theorem vA_M : Valid (S.seg aM) aM false := by
  obtain ⟨LL, h1, h2, -⟩ := build_ok bA_M rfl
  rw [if_neg (by decide)] at h1
  subst h1
  exact h2
theorem vB_M : Valid (S.seg bM) bM false := by
  obtain ⟨LL, h1, h2, -⟩ := build_ok bB_M rfl
  rw [if_neg (by decide)] at h1
  subst h1
  exact h2
def lM : List G.Sq := [(S.seg aM, false), (S.seg bM, false)]
def lsM : List (List Bool) := [[false, true], [true]]
theorem left_M : G.left lM lsM = mM := by
  have e1 := crd_seg vA_M.2
  have e2 := crd_seg vB_M.2
  simp only [lM, lsM, G.left, e1, e2]
  rfl
theorem right_M : G.Right lM lsM := G.Right.cons (valid_may11 vA_M) rfl (G.Right.cons (valid_may11 vB_M) rfl G.right_nil)
theorem errM : G.errL mM = 0 := by kernel_rfl
theorem good_M : G.Good lM lsM := G.errL_good right_M (by rw [left_M]; exact errM)
theorem out_M : G.out false (G.left lM lsM) = S.seg mM := by rw [left_M]; rfl
theorem v_M : Valid (S.seg mM) mM false := by
  have h := good_M.valid false
  rw [left_M] at h
  exact h
theorem tabs_M2 : [G.tab (S.seg mM).ids aM [false, true], G.tab (S.seg mM).ids bM [true]] = [[-1, 0], [1]] := by kernel_rfl
theorem tabs_M : G.tabs (S.seg mM).ids lM lsM = [[-1, 0], [1]] := by
  have e1 := crd_seg vA_M.2
  have e2 := crd_seg vB_M.2
  have e3 : G.tabs (S.seg mM).ids lM lsM = [G.tab (S.seg mM).ids (S.crd (S.seg aM)) [false, true], G.tab (S.seg mM).ids (S.crd (S.seg bM)) [true]] := rfl
  rw [e3, e1, e2, tabs_M2]
theorem ids_M : (S.seg mM).ids = [⟨#[121]⟩, ⟨#[122]⟩] := rfl
theorem posts_M : (S.posts mM ⟨#[97]⟩).map S.pt = [⟨0, [1]⟩, ⟨1, [0]⟩] := by kernel_rfl
theorem big_M : Big lM := by
  intro s hs
  simp only [lM, List.mem_cons, List.not_mem_nil, or_false] at hs
  have e1 : (S.seg aM).ts.length = 2 := by kernel_rfl
  have e2 : (S.seg bM).ts.length = 1 := by kernel_rfl
  rcases hs with rfl | rfl
  · refine ⟨fun x hx => ?_, by simp only [e1]; omega⟩
    simp only [S.seg, aM, List.map_cons, List.map_nil, List.mem_cons, List.not_mem_nil, or_false] at hx
    rcases hx with rfl | rfl <;> (unfold maxLen; decide)
  · refine ⟨fun x hx => ?_, by simp only [e2]; omega⟩
    simp only [S.seg, bM, List.map_cons, List.map_nil, List.mem_cons, List.not_mem_nil, or_false] at hx
    subst hx
    unfold maxLen; decide

theorem Gs.lit {e : TypeId} {w : World} {cs : Array Value} (ps : List (G.Sq × Qd)) {L : List G.Sq} (hL : ps.map (·.1) = L) (h : cs.toList = ps.flatMap encG) (hS : ∀ p ∈ ps, Sv w (sv p.2.1) (sv p.2.2.1) (sv p.2.2.2.1) (sv p.2.2.2.2) p.1.1) {n g : Nat} (hn : ps.length = n) (hl : n ≤ 4294967296) (hg : g = w.heap.size) :
    Gs (w.alloc (.cells cs e)) (.slice (some ⟨g, 0, none⟩) n n) L := ⟨ps, Kl.lit encG_len ps hn h hl hg, hL, fun p hp => (hS p hp).below (below_alloc _ _)⟩
theorem Lg.lits {α : Type} {f : α → Value} {e : TypeId} {w : World} {cs : Array Value} (us : List Pts) (ls : List (List α)) (h : cs.toList = us.map sv) (hL : us.length = ls.length) (hS : ∀ (i : Nat) (s : Pts) (l : List α), us[i]? = some s → ls[i]? = some l → Gl f w (sv s) l) {n g : Nat} (hn : us.length = n) (hl : n ≤ 4294967296) (hg : g = w.heap.size) :
    Lg f (w.alloc (.cells cs e)) (.slice (some ⟨g, 0, none⟩) n n) ls := ⟨us, Gl.lit us hn h hl hg, hL, fun i s l h1 h2 => (hS i s l h1 h2).below (below_alloc _ _)⟩

def litA11 (w : World) : World := ((w.alloc (.cells #[.string ⟨#[97]⟩] 9)).alloc (.cells #[.string ⟨#[98]⟩, .string ⟨#[97]⟩] 9)).alloc
  (.cells #[.string ⟨#[120]⟩, .int .i64 0, .slice (some ⟨w.heap.size, 0, none⟩) 1 1, .string ⟨#[121]⟩, .int .i64 1, .slice (some ⟨w.heap.size + 1, 0, none⟩) 2 2] 40)
theorem litA11_below (w : World) : Below w.heap.size w (litA11 w) := below_all (below_all (below_alloc _ _) _) _
theorem litA11_cs (w : World) : Cs (litA11 w) (.slice (some ⟨w.heap.size + 1 + 1, 0, none⟩) 2 2) aM := by
  refine ⟨[(xM, (some ⟨w.heap.size, 0, none⟩, 1, 1)), (yM, (some ⟨w.heap.size + 1, 0, none⟩, 2, 2))], Kl.lit encC_len _ rfl rfl (by decide) (by simp), rfl, fun p hp => ?_⟩
  simp only [List.mem_cons, List.not_mem_nil, or_false] at hp
  rcases hp with rfl | rfl
  · have h : Gl .string (w.alloc (.cells #[.string ⟨#[97]⟩] 9)) (sv (some ⟨w.heap.size, 0, none⟩, 1, 1)) xM.w := Gl.lit (n := 1) xM.w rfl rfl (by decide) rfl
    exact h.below (below_all (below_alloc _ _) _)
  · have h : Gl .string ((w.alloc (.cells #[.string ⟨#[97]⟩] 9)).alloc (.cells #[.string ⟨#[98]⟩, .string ⟨#[97]⟩] 9)) (sv (some ⟨w.heap.size + 1, 0, none⟩, 2, 2)) yM.w := Gl.lit (n := 2) yM.w rfl rfl (by decide) (by simp)
    exact h.below (below_alloc _ _)
def litB11 (w : World) : World := (w.alloc (.cells #[.string ⟨#[97]⟩] 9)).alloc (.cells #[.string ⟨#[122]⟩, .int .i64 0, .slice (some ⟨w.heap.size, 0, none⟩) 1 1] 40)
theorem litB11_cs (w : World) : Cs (litB11 w) (.slice (some ⟨w.heap.size + 1, 0, none⟩) 1 1) bM := by
  refine ⟨[(zM, (some ⟨w.heap.size, 0, none⟩, 1, 1))], Kl.lit encC_len _ rfl rfl (by decide) (by simp), rfl, fun p hp => ?_⟩
  simp only [List.mem_cons, List.not_mem_nil, or_false] at hp
  subst hp
  have h : Gl .string (w.alloc (.cells #[.string ⟨#[97]⟩] 9)) (sv (some ⟨w.heap.size, 0, none⟩, 1, 1)) zM.w := Gl.lit (n := 1) zM.w rfl rfl (by decide) rfl
  exact h.below (below_alloc _ _)
end Go.Proofs.YtnahjaloodeicaaGreat

/-
  The chapter's example holds: the contract of the statements' own 'awake' (merge).
-/
namespace Go.Proofs.YtnahjaloodeicaaGreat
set_option maxRecDepth 100000
open Go.RowKit Go.Deep

set_option linter.unusedSimpArgs false in
set_option maxRecDepth 100000 in
set_option maxHeartbeats 8000000 in
theorem awakeM_any (w : World) : Calls Tryz.prog 8 #[] w fun e w' => e = .returned (.bool true) ∧ Below w.heap.size w w' := by
  obtain ⟨W, hW⟩ : ∃ W, W = litA11 w := ⟨_, rfl⟩
  have BB := litA11_below w
  have CA := litA11_cs w
  rw [← hW] at BB CA
  unfold litA11 at hW
  obtain ⟨sa, hsa⟩ : ∃ s, S.seg aM = s := ⟨_, rfl⟩
  obtain ⟨sb, hsb⟩ : ∃ s, S.seg bM = s := ⟨_, rfl⟩
  have EA := bA_M
  have EB := bB_M
  rw [hsa] at EA
  rw [hsb] at EB
  have HSA := hide hsa
  have HSB := hide hsb
  have HW := hide hW
  clear hW hsa hsb
  have CC := build_any _ aM false W CA (by decide) _ EA
  clear EA
  go_enter Tryz.func8, Tryz.ntmps8
  go_wp2_with fail
  rw [← unhide HW]
  refine CC.mono ?_
  rintro e w1 ⟨iv, kv, lv, tv, rfl, S1, B1⟩
  simp only at S1
  obtain ⟨ia, ka, lna, ta, ic, kc, lnc, tc, rfl, rfl, rfl, rfl⟩ := S1.shape
  have BB1 := below_trans' BB B1
  obtain ⟨p1, hp1⟩ : ∃ p1, w1.heap.size = p1 := ⟨_, rfl⟩
  obtain ⟨W1, hW1⟩ : ∃ W1, W1 = w1.alloc (.cells #[.slice ia sa.ids.length ic, .slice ka sa.keys.length kc, .slice lna sa.lens.length lnc, .slice ta sa.ts.length tc, .bool false] 30) := ⟨_, rfl⟩
  have X1 : W1.heap[p1]? = some (.cells #[.slice ia sa.ids.length ic, .slice ka sa.keys.length kc, .slice lna sa.lens.length lnc, .slice ta sa.ts.length tc, .bool false] 30 (0, 0)) := by rw [hW1, ← hp1]; exact heap_alloc_new w1 _
  have BW1 : Below w1.heap.size w1 W1 := by rw [hW1]; exact below_alloc _ _
  obtain ⟨V1, hV1⟩ : ∃ V1, V1 = litB11 W1 := ⟨_, rfl⟩
  have BV1 : Below W1.heap.size W1 V1 := by rw [hV1]; exact below_all (below_alloc _ _) _
  have CB := litB11_cs W1
  rw [← hV1] at CB
  unfold litB11 at hV1
  have hz1 : W1.heap.size = p1 + 1 := by rw [hW1, ← hp1]; simp
  rw [hz1] at CB hV1
  have CC2 := build_any _ bM false V1 CB (by decide) _ EB
  have S1' := hide ((S1.below BW1).below BV1)
  have X1' := hide (box_below X1 BV1)
  have BB1' := hide (below_trans' BB1 (below_trans' BW1 BV1))
  rw [hW1] at hV1
  have HV1 := hide hV1
  clear CC CA B1 BB S1 X1 BW1 BV1 CB hz1 hW1 hV1 EB
  go_wp2_with fail
  rw [← unhide HV1]
  refine CC2.mono ?_
  rintro e w2 ⟨iv2, kv2, lv2, tv2, rfl, S2', B2⟩
  simp only at S2'
  obtain ⟨ia2, ka2, lna2, ta2, ic2, kc2, lnc2, tc2, rfl, rfl, rfl, rfl⟩ := S2'.shape
  have S12 := (unhide S1').below B2
  have X2 := box_below (unhide X1') B2
  have BB2 := hide (below_trans' (unhide BB1') B2)
  have hp12 : p1 < w2.heap.size := (Array.getElem?_eq_some_iff.1 X2).1
  obtain ⟨U, hU⟩ : ∃ U, U = w2.alloc (.cells #[.slice ia2 sb.ids.length ic2, .slice ka2 sb.keys.length kc2, .slice lna2 sb.lens.length lnc2, .slice ta2 sb.ts.length tc2, .bool false] 30) := ⟨_, rfl⟩
  have BU : Below w2.heap.size w2 U := by rw [hU]; exact below_alloc _ _
  have hzU : U.heap.size = w2.heap.size + 1 := by rw [hU]; simp
  have GL : Gs (U.alloc (.cells #[.slice ia sa.ids.length ic, .slice ka sa.keys.length kc, .slice lna sa.lens.length lnc, .slice ta sa.ts.length tc, .bool false, .slice ia2 sb.ids.length ic2, .slice ka2 sb.keys.length kc2, .slice lna2 sb.lens.length lnc2, .slice ta2 sb.ts.length tc2, .bool false] 30)) (.slice (some ⟨w2.heap.size + 1, 0, none⟩) 2 2) lM := by
    refine Gs.lit [((sa, false), (ia, sa.ids.length, ic), (ka, sa.keys.length, kc), (lna, sa.lens.length, lnc), (ta, sa.ts.length, tc)), ((sb, false), (ia2, sb.ids.length, ic2), (ka2, sb.keys.length, kc2), (lna2, sb.lens.length, lnc2), (ta2, sb.ts.length, tc2))] (by rw [← unhide HSA, ← unhide HSB]; rfl) rfl (fun p hp => ?_) rfl (by decide) hzU.symm
    simp only [List.mem_cons, List.not_mem_nil, or_false] at hp
    rcases hp with rfl | rfl
    · exact S12.below BU
    · exact S2'.below BU
  obtain ⟨U2, hU2⟩ : ∃ U2, U2 = U.alloc (.cells #[.slice ia sa.ids.length ic, .slice ka sa.keys.length kc, .slice lna sa.lens.length lnc, .slice ta sa.ts.length tc, .bool false, .slice ia2 sb.ids.length ic2, .slice ka2 sb.keys.length kc2, .slice lna2 sb.lens.length lnc2, .slice ta2 sb.ts.length tc2, .bool false] 30) := ⟨_, rfl⟩
  rw [← hU2] at GL
  have BU2 : Below U.heap.size U U2 := by rw [hU2]; exact below_alloc _ _
  have hzU2 : U2.heap.size = w2.heap.size + 1 + 1 := by rw [hU2]; simp [hzU]
  obtain ⟨V, hV⟩ : ∃ V, V = ((U2.alloc (.cells #[.bool false, .bool true] 4)).alloc (.cells #[.bool true] 4)).alloc (.cells #[.slice (some ⟨w2.heap.size + 1 + 1, 0, none⟩) 2 2, .slice (some ⟨w2.heap.size + 1 + 1 + 1, 0, none⟩) 1 1] 38) := ⟨_, rfl⟩
  have BV : Below U2.heap.size U2 V := by rw [hV]; exact below_all (below_all (below_alloc _ _) _) _
  have LL : Bll V (.slice (some ⟨w2.heap.size + 1 + 1 + 1 + 1, 0, none⟩) 2 2) lsM := by
    rw [hV]
    refine Lg.lits [(some ⟨w2.heap.size + 1 + 1, 0, none⟩, 2, 2), (some ⟨w2.heap.size + 1 + 1 + 1, 0, none⟩, 1, 1)] lsM rfl rfl (fun i s l h1 h2 => ?_) rfl (by decide) (by simp [hzU2])
    match i, h1, h2 with
    | 0, h1, h2 =>
      simp [lsM] at h1 h2
      subst h1 h2
      exact (Gl.lit (f := Value.bool) (n := 2) [false, true] rfl rfl (by decide) hzU2.symm).below (below_alloc _ _)
    | 1, h1, h2 =>
      simp [lsM] at h1 h2
      subst h1 h2
      exact Gl.lit (f := Value.bool) (n := 1) [true] rfl rfl (by decide) (by simp [hzU2])
    | n + 2, h1, h2 => simp at h1
  have GV := GL.below BV
  have CM := mergeM_any _ _ lM lsM false V GV LL big_M (by decide) (fun _ => by rw [left_M]; decide)
  have BBV := hide (below_trans' (unhide BB2) (below_trans' BU (below_trans' BU2 BV)))
  have HGV := hide GV
  have HLL := hide LL
  rw [hU2, hU] at hV
  have HV := hide hV
  have x0 := box_cell X2 (j := 0) rfl
  have x1 := box_cell X2 (j := 1) rfl
  have x2 := box_cell X2 (j := 2) rfl
  have x3 := box_cell X2 (j := 3) rfl
  have x4 := box_cell X2 (j := 4) rfl
  clear CC2 B2 S12 X2 BU hzU GL BU2 hzU2 BV LL GV hV hU2 hU S2' hp1
  go_wp2_with fail
  rw [← unhide HV]
  refine CM.mono ?_
  rintro e w3 ⟨n, hn, hcase, B3⟩
  obtain rfl := good_M.err hn
  rcases hcase with ⟨-, ia3, ka3, lna3, ta3, ic3, kc3, lnc3, tc3, tv3, s3, hs3, rfl, S3, T3⟩ | ⟨h9, -⟩
  · rw [out_M] at hs3
    have HV3 : Hid (Valid s3 mM false) := by show _; rw [hs3]; exact v_M
    have HI3 : Hid (s3.ids = [⟨#[121]⟩, ⟨#[122]⟩]) := by show _ = _; rw [hs3]; exact ids_M
    have T3' : Tl w3 tv3 [[-1, 0], [1]] := by
      have := T3.tl
      rw [hs3, tabs_M] at this
      exact this
    obtain ⟨tva, tvc, htv, -⟩ := id T3'.at
    subst htv
    have BB3 := below_trans' (unhide BBV) B3
    have G3 := hide ((unhide HGV).below B3)
    have L3 := hide ((unhide HLL).below B3)
    obtain ⟨p3, hp3⟩ : ∃ p3, w3.heap.size = p3 := ⟨_, rfl⟩
    obtain ⟨W3, hW3⟩ : ∃ W3, W3 = w3.alloc (.cells #[.slice ia3 s3.ids.length ic3, .slice ka3 s3.keys.length kc3, .slice lna3 s3.lens.length lnc3, .slice ta3 s3.ts.length tc3, .bool false] 30) := ⟨_, rfl⟩
    have X3 : W3.heap[p3]? = some (.cells #[.slice ia3 s3.ids.length ic3, .slice ka3 s3.keys.length kc3, .slice lna3 s3.lens.length lnc3, .slice ta3 s3.ts.length tc3, .bool false] 30 (0, 0)) := by rw [hW3, ← hp3]; exact heap_alloc_new w3 _
    have BW3 : Below w3.heap.size w3 W3 := by rw [hW3]; exact below_alloc _ _
    have hz3 : W3.heap.size = p3 + 1 := by rw [hW3, ← hp3]; simp
    obtain ⟨W4, hW4⟩ : ∃ W4, W4 = W3.alloc (.cells #[.string ⟨#[121]⟩, .string ⟨#[122]⟩] 9) := ⟨_, rfl⟩
    have BW4 : Below W3.heap.size W3 W4 := by rw [hW4]; exact below_alloc _ _
    have LT : Gl .string W4 (.slice (some ⟨p3 + 1, 0, none⟩) 2 2) [⟨#[121]⟩, ⟨#[122]⟩] := by rw [hW4]; exact Gl.lit (f := Value.string) (n := 2) ([⟨#[121]⟩, ⟨#[122]⟩] : List ByteArray) rfl rfl (by decide) hz3.symm
    have S4 := (S3.below BW3).below BW4
    have CT := texts_any _ _ s3.ids [⟨#[121]⟩, ⟨#[122]⟩] W4 S4.1 LT true (by rw [unhide HI3]; decide)
    have X4 := hide (box_below X3 BW4)
    have HS4 := hide S4
    have T4 := hide ((T3'.below BW3).below BW4)
    have BB4 := hide (below_trans' BB3 (below_trans' BW3 BW4))
    have B34 := hide (below_trans' BW3 BW4)
    rw [hW3] at hW4
    have HW4 := hide hW4
    have y0 := box_cell X3 (j := 0) rfl
    rw [hW3] at y0
    clear CM hn B3 S3 T3 T3' BB3 hs3 X3 BW3 hz3 BW4 LT S4 hW3 hW4 x0 x1 x2 x3 x4
    go_wp2_with fail
    rw [← unhide HW4]
    refine CT.mono ?_
    rintro e w5 ⟨rfl, B5⟩
    have S5 := (unhide HS4).below B5
    have X5 := box_below (unhide X4) B5
    have T5 := hide ((unhide T4).below B5)
    have BB5 := below_trans' (unhide BB4) B5
    have G5 := hide (((unhide G3).below (unhide B34)).below B5)
    have L5 := hide (((unhide L3).below (unhide B34)).below B5)
    have CH := has_any ia3 ka3 lna3 ta3 ic3 kc3 lnc3 tc3 s3 false mM ⟨#[97]⟩ w5 S5 (unhide HV3)
    rw [posts_M] at CH
    have z0 := box_cell X5 (j := 0) rfl
    have z1 := box_cell X5 (j := 1) rfl
    have z2 := box_cell X5 (j := 2) rfl
    have z3 := box_cell X5 (j := 3) rfl
    have z4 := box_cell X5 (j := 4) rfl
    clear CT B5 S5 X5 y0 hp3
    go_wp2_with fail
    refine CH.mono ?_
    rintro e w6 ⟨hv, rfl, P6, B6⟩
    have BB6 := below_trans' BB5 B6
    have T6 := hide ((unhide T5).below B6)
    have G6 := hide ((unhide G5).below B6)
    have L6 := hide ((unhide L5).below B6)
    obtain ⟨ha, hc, hhv, -⟩ := id P6
    subst hhv
    obtain ⟨W7, hW7⟩ : ∃ W7, W7 = ((w6.alloc (.cells #[.int .i64 1] 3)).alloc (.cells #[.int .i64 0] 3)).alloc (.cells #[.int .i64 0, .slice (some ⟨w6.heap.size, 0, none⟩) 1 1, .int .i64 1, .slice (some ⟨w6.heap.size + 1, 0, none⟩) 1 1] 58) := ⟨_, rfl⟩
    have BW7 : Below w6.heap.size w6 W7 := by rw [hW7]; exact below_all (below_all (below_alloc _ _) _) _
    have LP : Pl W7 (.slice (some ⟨w6.heap.size + 1 + 1, 0, none⟩) 2 2) [⟨0, [1]⟩, ⟨1, [0]⟩] := by
      rw [hW7]
      refine Pl.lits [(⟨0, [1]⟩, (some ⟨w6.heap.size, 0, none⟩, 1, 1)), (⟨1, [0]⟩, (some ⟨w6.heap.size + 1, 0, none⟩, 1, 1))] rfl rfl (fun p hp => ?_) rfl (by decide) (by simp)
      simp only [List.mem_cons, List.not_mem_nil, or_false] at hp
      rcases hp with rfl | rfl
      · exact (Il.sl (Gl.lit (f := Value.int .i64) (n := 1) [1] rfl rfl (by decide) rfl)).below (below_alloc _ _)
      · exact Il.sl (Gl.lit (f := Value.int .i64) (n := 1) [0] rfl rfl (by decide) (by simp))
    have CS := rsame_any _ _ [⟨0, [1]⟩, ⟨1, [0]⟩] [⟨0, [1]⟩, ⟨1, [0]⟩] W7 (P6.below BW7) LP
    rw [Pt.eqs_refl] at CS
    have T7 := hide ((unhide T6).below BW7)
    have G7 := hide ((unhide G6).below BW7)
    have L7 := hide ((unhide L6).below BW7)
    have BB7 := hide (below_trans' BB6 BW7)
    have HW7 := hide hW7
    clear CH B6 P6 BB5 BB6 BW7 LP hW7 z0 z1 z2 z3 z4
    go_wp2_with fail
    rw [← unhide HW7]
    refine CS.mono ?_
    rintro e w8 ⟨rfl, B8⟩
    have T8 := (unhide T7).below B8
    have G8 := (unhide G7).below B8
    have L8 := (unhide L7).below B8
    have BB8 := below_trans' (unhide BB7) B8
    obtain ⟨W9, hW9⟩ : ∃ W9, W9 = ((w8.alloc (.cells #[.int .i64 (-1), .int .i64 0] 3)).alloc (.cells #[.int .i64 1] 3)).alloc (.cells #[.slice (some ⟨w8.heap.size, 0, none⟩) 2 2, .slice (some ⟨w8.heap.size + 1, 0, none⟩) 1 1] 27) := ⟨_, rfl⟩
    have BW9 : Below w8.heap.size w8 W9 := by rw [hW9]; exact below_all (below_all (below_alloc _ _) _) _
    have LT9 : Tl W9 (.slice (some ⟨w8.heap.size + 1 + 1, 0, none⟩) 2 2) [[-1, 0], [1]] := by
      rw [hW9]
      refine Lg.lits [(some ⟨w8.heap.size, 0, none⟩, 2, 2), (some ⟨w8.heap.size + 1, 0, none⟩, 1, 1)] [[-1, 0], [1]] rfl rfl (fun i s l h1 h2 => ?_) rfl (by decide) (by simp)
      match i, h1, h2 with
      | 0, h1, h2 =>
        simp at h1 h2
        subst h1 h2
        exact (Gl.lit (f := Value.int .i64) (n := 2) [-1, 0] rfl rfl (by decide) rfl).below (below_alloc _ _)
      | 1, h1, h2 =>
        simp at h1 h2
        subst h1 h2
        exact Gl.lit (f := Value.int .i64) (n := 1) [1] rfl rfl (by decide) (by simp)
      | n + 2, h1, h2 => simp at h1
    have CTB := tablesL_any _ _ [[-1, 0], [1]] W9 (T8.below BW9) LT9
    have G9 := hide (G8.below BW9)
    have L9 := hide (L8.below BW9)
    have BB9 := hide (below_trans' BB8 BW9)
    have HW9 := hide hW9
    clear CS B8 T8 G8 L8 BB8 BW9 LT9 hW9
    go_wp2_with fail
    rw [← unhide HW9]
    refine CTB.mono ?_
    rintro e w10 ⟨rfl, B10⟩
    have CL := leftM_any _ _ lM lsM w10 ((unhide G9).below B10) ((unhide L9).below B10) big_M right_M (by rw [left_M]; decide)
    have BB10 := hide (below_trans' (unhide BB9) B10)
    clear CTB B10
    go_wp2_with fail
    refine CL.mono ?_
    rintro e w11 ⟨lv, rfl, H11, B11⟩
    rw [left_M] at H11
    obtain ⟨la9, lc9, rfl, -⟩ := id H11.open
    have hml : mM.length = 2 := rfl
    rw [hml]
    have BBE := hide (below_trans' (unhide BB10) B11)
    clear CL H11 B11 hml
    go_wp2
    go_ret
    exact ⟨rfl, unhide BBE⟩
  · exact absurd rfl h9
end Go.Proofs.YtnahjaloodeicaaGreat

/-
  What Merge hands back, as the laws' walks have it; literals of one and of two segments, and lists.
-/
namespace Go.Proofs.YtnahjaloodeicaaGreat
set_option maxRecDepth 100000
open Go.RowKit Go.Deep

theorem big_two {s t : G.Sq} (h1 : FewS s.1) (h2 : FewS t.1) : Big [s, t] := fun u hu => by
  simp only [List.mem_cons, List.not_mem_nil, or_false] at hu
  rcases hu with rfl | rfl
  · exact ⟨fun x hx => by have := h1.1 x hx; unfold maxLen; omega, by have := h1.2; omega⟩
  · exact ⟨fun x hx => by have := h2.1 x hx; unfold maxLen; omega, by have := h2.2; omega⟩

/-- Two segments, two lists: literals. -/
theorem Gs.two {e : TypeId} {w : World} {g : Nat} {s t : Sg} {so tso : Bool} {ia ka lna ta ia2 ka2 lna2 ta2 : Option Addr} {ic kc lnc tc ic2 kc2 lnc2 tc2 : Nat} (h : Sv w (.slice ia s.ids.length ic) (.slice ka s.keys.length kc) (.slice lna s.lens.length lnc) (.slice ta s.ts.length tc) s) (k : Sv w (.slice ia2 t.ids.length ic2) (.slice ka2 t.keys.length kc2) (.slice lna2 t.lens.length lnc2) (.slice ta2 t.ts.length tc2) t) (hg : g = w.heap.size) :
    Gs (w.alloc (.cells #[.slice ia s.ids.length ic, .slice ka s.keys.length kc, .slice lna s.lens.length lnc, .slice ta s.ts.length tc, .bool so, .slice ia2 t.ids.length ic2, .slice ka2 t.keys.length kc2, .slice lna2 t.lens.length lnc2, .slice ta2 t.ts.length tc2, .bool tso] e)) (.slice (some ⟨g, 0, none⟩) 2 2) [(s, so), (t, tso)] := by
  refine Gs.lit [((s, so), (ia, s.ids.length, ic), (ka, s.keys.length, kc), (lna, s.lens.length, lnc), (ta, s.ts.length, tc)), ((t, tso), (ia2, t.ids.length, ic2), (ka2, t.keys.length, kc2), (lna2, t.lens.length, lnc2), (ta2, t.ts.length, tc2))] rfl rfl (fun p hp => ?_) rfl (by decide) hg
  simp only [List.mem_cons, List.not_mem_nil, or_false] at hp
  rcases hp with rfl | rfl
  · exact h
  · exact k
theorem Bll.two {e : TypeId} {w : World} {g n1 c1 n2 c2 : Nat} {x y : List Bool} {a1 a2 : Option Addr} (h : Gl .bool w (.slice a1 n1 c1) x) (k : Gl .bool w (.slice a2 n2 c2) y) (hg : g = w.heap.size) : Bll (w.alloc (.cells #[.slice a1 n1 c1, .slice a2 n2 c2] e)) (.slice (some ⟨g, 0, none⟩) 2 2) [x, y] := by
  refine Lg.lits [(a1, n1, c1), (a2, n2, c2)] [x, y] rfl rfl (fun i s l h1 h2 => ?_) rfl (by decide) hg
  match i, h1, h2 with
  | 0, h1, h2 =>
    simp at h1 h2
    subst h1 h2
    exact h
  | 1, h1, h2 =>
    simp at h1 h2
    subst h1 h2
    exact k
  | n + 2, h1, h2 => simp at h1

/-- What Merge hands back, its segment in a box behind it. -/
def RetG (w : World) (l : List G.Sq) (ls : List (List Bool)) (so : Bool) (iv kv lv tv : Value) (b : Bool) (n : Int) : Prop :=
  G.ErrIs l ls n ∧ (n = 0 → b = so ∧ Sv w iv kv lv tv (G.out so (G.left l ls)))
theorem MrgEnd.ret {w w' : World} {l : List G.Sq} {ls : List (List Bool)} {so : Bool} {e : Ending} (h : MrgEnd w l ls so e w') : ∃ (ia ka lna ta : Option Addr) (n1 n2 n3 n4 ic kc lnc tc : Nat) (tv : Value) (b : Bool) (n : Int), e = .returned (.tuple #[.agg #[.slice ia n1 ic, .slice ka n2 kc, .slice lna n3 lnc, .slice ta n4 tc, .bool b], tv, .int .i64 n]) ∧
    RetG w' l ls so (.slice ia n1 ic) (.slice ka n2 kc) (.slice lna n3 lnc) (.slice ta n4 tc) b n ∧ (n = 0 → TlO w.heap.size w' tv (G.tabs (G.out so (G.left l ls)).ids l ls)) ∧ (n ≠ 0 → tv = .slice none 0 0 ∧ n1 = 0 ∧ n4 = 0) ∧ (∃ a c d, tv = .slice a c d) ∧ Below w.heap.size w w' := by
  obtain ⟨n, h1, h2, h3⟩ := h
  rcases h2 with ⟨rfl, ia, ka, lna, ta, ic, kc, lnc, tc, tv, s, rfl, rfl, h4, h5⟩ | ⟨h0, rfl⟩
  · obtain ⟨a, c, h6, -⟩ := h5.tl.at
    exact ⟨ia, ka, lna, ta, _, _, _, _, ic, kc, lnc, tc, tv, so, 0, rfl, ⟨h1, fun _ => ⟨rfl, h4⟩⟩, fun _ => h5, fun h9 => absurd rfl h9, ⟨_, _, _, h6⟩, h3⟩
  · exact ⟨none, none, none, none, 0, 0, 0, 0, 0, 0, 0, 0, _, false, n, rfl, ⟨h1, fun h9 => absurd h9 h0⟩, fun h9 => absurd h9 h0, fun _ => ⟨rfl, rfl, rfl⟩, ⟨_, _, _, rfl⟩, h3⟩
theorem RetG.below {w w' : World} {l : List G.Sq} {ls : List (List Bool)} {so : Bool} {iv kv lv tv : Value} {b : Bool} {n : Int} (h : RetG w l ls so iv kv lv tv b n) (hb : Below w.heap.size w w') : RetG w' l ls so iv kv lv tv b n := ⟨h.1, fun h0 => ⟨(h.2 h0).1, (h.2 h0).2.below hb⟩⟩

theorem Sv.lens11 {w : World} {a b c d : Option Addr} {n1 n2 n3 n4 c1 c2 c3 c4 : Nat} {s : Sg} (h : Sv w (.slice a n1 c1) (.slice b n2 c2) (.slice c n3 c3) (.slice d n4 c4) s) : n1 = s.ids.length ∧ n2 = s.keys.length ∧ n3 = s.lens.length ∧ n4 = s.ts.length := by
  obtain ⟨_, _, _, _, _, _, _, _, e1, e2, e3, e4⟩ := h.shape
  simp only [Value.slice.injEq] at e1 e2 e3 e4
  exact ⟨e1.2.1, e2.2.1, e3.2.1, e4.2.1⟩

theorem RetG.off {g : Nat} {w w' : World} {l : List G.Sq} {ls : List (List Bool)} {so : Bool} {iv kv lv tv : Value} {b : Bool} {n : Int} (h : RetG w l ls so iv kv lv tv b n) (hk : Bxk w g) (ho : Off g w w') : RetG w' l ls so iv kv lv tv b n := ⟨h.1, fun h0 => ⟨(h.2 h0).1, (h.2 h0).2.off hk ho⟩⟩
theorem Gs.one {e : TypeId} {w : World} {g : Nat} {s : Sg} {so : Bool} {ia ka lna ta : Option Addr} {ic kc lnc tc : Nat} (h : Sv w (.slice ia s.ids.length ic) (.slice ka s.keys.length kc) (.slice lna s.lens.length lnc) (.slice ta s.ts.length tc) s) (hg : g = w.heap.size) :
    Gs (w.alloc (.cells #[.slice ia s.ids.length ic, .slice ka s.keys.length kc, .slice lna s.lens.length lnc, .slice ta s.ts.length tc, .bool so] e)) (.slice (some ⟨g, 0, none⟩) 1 1) [(s, so)] := by
  refine Gs.lit [((s, so), (ia, s.ids.length, ic), (ka, s.keys.length, kc), (lna, s.lens.length, lnc), (ta, s.ts.length, tc))] rfl rfl (fun p hp => ?_) rfl (by decide) hg
  simp only [List.mem_cons, List.not_mem_nil, or_false] at hp
  subst hp
  exact h
theorem Bll.one {e : TypeId} {w : World} {g n1 c1 : Nat} {x : List Bool} {a1 : Option Addr} (h : Gl .bool w (.slice a1 n1 c1) x) (hg : g = w.heap.size) : Bll (w.alloc (.cells #[.slice a1 n1 c1] e)) (.slice (some ⟨g, 0, none⟩) 1 1) [x] := by
  refine Lg.lits [(a1, n1, c1)] [x] rfl rfl (fun i s l h1 h2 => ?_) rfl (by decide) hg
  match i, h1, h2 with
  | 0, h1, h2 =>
    simp at h1 h2
    subst h1 h2
    exact h
  | n + 1, h1, h2 => simp at h1
end Go.Proofs.YtnahjaloodeicaaGreat
