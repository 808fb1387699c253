/-
  MergeOne: the law's own walk.
-/
import Derived.Test.YtnahjaloodeicaaGreatM30
import Derived.Deep.CutRange
namespace Go.Proofs.YtnahjaloodeicaaGreat
set_option maxRecDepth 100000
open Go.RowKit Go.Deep

theorem big_one {s : G.Sq} (h : FewS s.1) : Big [s] := fun u hu => by
  simp only [List.mem_cons, List.not_mem_nil, or_false] at hu
  subst hu
  exact ⟨fun x hx => by have := h.1 x hx; unfold maxLen; omega, by have := h.2; omega⟩
theorem new_all {n : Nat} (h : n ≤ 64) : L.new (n : Int) = List.replicate n true := by
  rw [new_fill _ h, List.eq_replicate_iff]
  simp
theorem one_err {s : Sg} {so : Bool} {r : List Bool} {n : Int} (h : G.ErrIs [(s, so)] [r] n) (hM : ¬ MayP s so) : n = 1 := by
  rcases h with ⟨-, h2⟩ | ⟨h1, -⟩
  · exact h2
  · exact absurd (h1.2 0 _ _ rfl rfl).1 hM
theorem one_right {s : Sg} {so : Bool} (hM : MayP s so) {n : Int} (h : G.ErrIs [(s, so)] [L.new (s.ids.length : Int)] n) : n = 0 := by
  rw [new_all hM.heads.n64] at h
  exact (G.one_good hM).err h
theorem one_seg {s : Sg} {so : Bool} (hM : MayP s so) : G.out so (G.left [(s, so)] [L.new (s.ids.length : Int)]) = s := by
  rw [new_all hM.heads.n64]
  exact G.one_out hM
theorem one_tab {s : Sg} {so : Bool} (hM : MayP s so) : ∃ t, G.tabs s.ids [(s, so)] [L.new (s.ids.length : Int)] = [t] ∧ t.length = s.ids.length ∧ ∀ i, i < s.ids.length → t[i]? = some (i : Int) := by
  rw [new_all hM.heads.n64]
  refine ⟨_, rfl, by rw [G.tab_len _ (by rw [S.crd_len]; simp), S.crd_len], fun i hi => ?_⟩
  have hc := S.crd_get hi
  rw [G.tab_at s.ids hc (b := true) (by simp [hi]), if_pos rfl]
  congr 2
  exact G.at_is hM.heads.unl (by simp [List.getD, hi])
theorem none_ret {n : Int} (h : G.ErrIs [] [] n) : n = 0 := G.none_good.err h

set_option linter.unusedSimpArgs false in
set_option maxRecDepth 100000 in
set_option maxHeartbeats 16000000 in
theorem mergeOne_walk (ia ka lna ta : Option Addr) (ic kc lnc tc : Nat) (s : Sg) (so : Bool) (w : World) (h : Sv w (.slice ia s.ids.length ic) (.slice ka s.keys.length kc) (.slice lna s.lens.length lnc) (.slice ta s.ts.length tc) s) :
    Calls Tryz.prog 5 #[.agg #[.slice ia s.ids.length ic, .slice ka s.keys.length kc, .slice lna s.lens.length lnc, .slice ta s.ts.length tc, .bool so]] w fun e w' => e = .returned (.bool true) ∧ Below w.heap.size w w' := by
  obtain ⟨p, hp⟩ : ∃ p, w.heap.size = p := ⟨_, rfl⟩
  obtain ⟨W, hW⟩ : ∃ W, W = w.alloc (.cells #[.slice ia s.ids.length ic, .slice ka s.keys.length kc, .slice lna s.lens.length lnc, .slice ta s.ts.length tc, .bool so] 30) := ⟨_, rfl⟩
  have X0 : W.heap[p]? = some (.cells #[.slice ia s.ids.length ic, .slice ka s.keys.length kc, .slice lna s.lens.length lnc, .slice ta s.ts.length tc, .bool so] 30 (0, 0)) := by rw [hW, ← hp]; exact heap_alloc_new w _
  have BW : Below w.heap.size w W := by rw [hW]; exact below_alloc _ _
  replace h := h.below BW
  have CA := awakeM_any W
  have HW := hide hW
  clear hW
  go_enter Tryz.func5, Tryz.ntmps5
  go_wp2_with fail
  rw [← unhide HW]
  refine CA.mono ?_
  rintro e w1 ⟨rfl, B1⟩
  have BB1 := below_trans' BW B1
  replace X0 := box_below X0 B1
  replace h := h.below B1
  have x0 := box_cell X0 (j := 0) rfl
  have x1 := box_cell X0 (j := 1) rfl
  have x2 := box_cell X0 (j := 2) rfl
  have x3 := box_cell X0 (j := 3) rfl
  have x4 := box_cell X0 (j := 4) rfl
  have CF := fewSeg_any ia ka lna ta ic kc lnc tc s so w1 h
  clear CA B1 BW
  go_wp2_with fail
  refine CF.mono ?_
  rintro e w2 ⟨r1, rfl, hr1, B2⟩
  have BB2 := below_trans' BB1 B2
  replace X0 := box_below X0 B2
  replace h := h.below B2
  clear CF B2 BB1 x0 x1 x2 x3 x4
  cases r1 with
  | false =>
    clear X0 hr1
    go_wp2
    go_ret
    exact ⟨rfl, BB2⟩
  | true =>
    have F1 := hide (hr1 rfl)
    have x4 := box_cell X0 (j := 4) rfl
    have CN := mergeM_any (.slice none 0 0) (.slice none 0 0) [] [] so w2 (Gs.nil _) ⟨[], Gl.nil _ _, rfl, fun i s l hs => by simp at hs⟩ (fun s hs => by cases hs) (by simp) (fun _ => by simp [G.left])
    clear hr1
    go_wp2_with fail
    refine CN.mono ?_
    rintro e w3 h3
    obtain ⟨na, nb, nc, nd, a1, a2, a3, a4, nia, nib, nic, nid, nv, nb0, nn, rfl, R3, -, -, ⟨nt1, nt2, nt3, rfl⟩, B3⟩ := h3.ret
    obtain rfl := none_ret R3.1
    obtain ⟨hb0, S3⟩ := R3.2 rfl
    obtain rfl : so = nb0 := hb0.symm
    rw [G.none_out] at S3
    obtain ⟨e1, -, -, e4⟩ := S3.lens11
    simp only [List.length_nil] at e1 e4
    subst e1 e4
    have BB3 := below_trans' BB2 B3
    replace X0 := box_below X0 B3
    replace h := h.below B3
    have hp3 : p < w3.heap.size := (Array.getElem?_eq_some_iff.1 X0).1
    obtain ⟨p5, hp5⟩ : ∃ p5, w3.heap.size = p5 := ⟨_, rfl⟩
    obtain ⟨w4, hw4⟩ : ∃ w4, w4 = w3.alloc (.cells #[.slice na 0 nia, .slice nb a2 nib, .slice nc a3 nic, .slice nd 0 nid, .bool so] 30) := ⟨_, rfl⟩
    have B4 : Below w3.heap.size w3 w4 := by rw [hw4]; exact below_alloc _ _
    have X5 : w4.heap[p5]? = some (.cells #[.slice na 0 nia, .slice nb a2 nib, .slice nc a3 nic, .slice nd 0 nid, .bool so] 30 (0, 0)) := by rw [hw4, ← hp5]; exact heap_alloc_new w3 _
    have HW4 := hide hw4
    have BB4 := hide (below_trans' BB3 B4)
    have X04 := box_below X0 B4
    have HX5 := hide X5
    have HX0 := hide X04
    have S4 := h.below B4
    have HS4 := hide S4
    have HP5 := hide hp5
    have hp45 : p < p5 := by omega
    clear CN h3 R3 S3 B3 BB2 BB3 X0 h X5 hw4 B4 x4 hp3 hp5
    have KB : ∀ w' : World, Below w4.heap.size w4 w' → Below w4.heap.size w4 w' ∧ w'.cell? ⟨p, 0, none⟩ = some (.slice ia s.ids.length ic) ∧ w'.cell? ⟨p, 1, none⟩ = some (.slice ka s.keys.length kc) ∧ w'.cell? ⟨p, 2, none⟩ = some (.slice lna s.lens.length lnc) ∧ w'.cell? ⟨p, 3, none⟩ = some (.slice ta s.ts.length tc) ∧ w'.cell? ⟨p, 4, none⟩ = some (.bool so) := fun w' h9 => ⟨h9, box_cell (box_below X04 h9) (j := 0) rfl, box_cell (box_below X04 h9) (j := 1) rfl, box_cell (box_below X04 h9) (j := 2) rfl, box_cell (box_below X04 h9) (j := 3) rfl, box_cell (box_below X04 h9) (j := 4) rfl⟩
    have HKB := hide KB
    clear KB X04
    obtain ⟨n, hn⟩ : ∃ n, s.ids.length = n := ⟨_, rfl⟩
    obtain ⟨LN, hLN⟩ : ∃ LN, L.new (s.ids.length : Int) = LN := ⟨_, rfl⟩
    have CNW := fun w9 => new_any (s.ids.length : Int) w9
    rw [hLN] at CNW
    have HLN := hide hLN
    have HN := hide hn
    clear hLN hn
    go_upto_region 6 with fail
    go_cut [8, 9, 10] from 30 to 42 (fun p8 p9 p10 wx => ∃ (g : Nat) (ja jb jc jd : Option Addr) (m1 m2 m3 m4 jia jib jic jid : Nat) (jv : Value) (jb0 : Bool) (jn : Int), p8 = .pointer (some ⟨g, 0, none⟩) ∧ p9 = jv ∧ p10 = .int .i64 jn ∧ wx.heap[g]? = some (.cells #[.slice ja m1 jia, .slice jb m2 jib, .slice jc m3 jic, .slice jd m4 jid, .bool jb0] 30 (0, 0)) ∧
      RetG wx [(s, so)] [LN] so (.slice ja m1 jia) (.slice jb m2 jib) (.slice jc m3 jic) (.slice jd m4 jid) jb0 jn ∧ (jn = 0 → Tl wx jv (G.tabs (G.out so (G.left [(s, so)] [LN])).ids [(s, so)] [LN])) ∧ (∃ a c d, jv = .slice a c d) ∧ Below w4.heap.size w4 wx)
    case first =>
      rw [← unhide HW4]
      refine wp_region_held_drew (S := fun w' => Below w4.heap.size w4 w' ∧ w'.cell? ⟨p, 0, none⟩ = some (.slice ia s.ids.length ic) ∧ w'.cell? ⟨p, 1, none⟩ = some (.slice ka s.keys.length kc) ∧ w'.cell? ⟨p, 2, none⟩ = some (.slice lna s.lens.length lnc) ∧ w'.cell? ⟨p, 3, none⟩ = some (.slice ta s.ts.length tc) ∧ w'.cell? ⟨p, 4, none⟩ = some (.bool so)) (by kernel_rfl) (unhide HKB _ (Below.refl _ _).drew) (fun hH => ?_)
      obtain ⟨u0, hu0⟩ : ∃ u0, u0 = w4.drew := ⟨_, rfl⟩
      rw [← hu0] at hH ⊢
      have FS : Sv u0 (.slice ia s.ids.length ic) (.slice ka s.keys.length kc) (.slice lna s.lens.length lnc) (.slice ta s.ts.length tc) s := by rw [hu0]; exact (unhide HS4).below (Below.refl _ _).drew
      clear hu0
      refine takeH11 (i := 0) (d := some 30) (v := .agg #[.slice ia s.ids.length ic, .slice ka s.keys.length kc, .slice lna s.lens.length lnc, .slice ta s.ts.length tc, .bool so]) rfl rfl (by kernel_rfl) (by kernel_rfl) (by kernel_rfl) (fun _ _ _ h => h) (Or.inl ⟨by rfl, fun w9 hSw => ?_⟩) hH ?_
      · (try dsimp only at hSw); go_simp
      conv => arg 8; simp only [Act.put, List.setIfInBounds_toArray, List.set_cons_zero, List.set_cons_succ]
      refine takeH11 (i := 2) (d := some 32) (v := .pointer (some ⟨p, 0, none⟩)) rfl rfl (by kernel_rfl) (by kernel_rfl) (by kernel_rfl) (fun _ _ _ h => h) (Or.inl ⟨by rfl, fun w9 hSw => ?_⟩) hH ?_
      · (try dsimp only at hSw); go_simp
      conv => arg 8; simp only [Act.put, List.setIfInBounds_toArray, List.set_cons_zero, List.set_cons_succ]
      refine takeH11 (i := 3) (d := some 33) (v := .slice ia s.ids.length ic) rfl rfl (by kernel_rfl) (by kernel_rfl) (by kernel_rfl) (fun _ _ _ h => h) (Or.inl ⟨by rfl, fun w9 hSw => ?_⟩) hH ?_
      · (try dsimp only at hSw); go_simp
      conv => arg 8; simp only [Act.put, List.setIfInBounds_toArray, List.set_cons_zero, List.set_cons_succ]
      refine takeH11 (i := 4) (d := some 34) (v := .int .i64 (s.ids.length : Int)) rfl rfl (by kernel_rfl) (by kernel_rfl) (by kernel_rfl) (fun _ _ _ h => h) (Or.inl ⟨by rfl, fun w9 hSw => ?_⟩) hH ?_
      · (try dsimp only at hSw); go_simp
      conv => arg 8; simp only [Act.put, List.setIfInBounds_toArray, List.set_cons_zero, List.set_cons_succ]
      refine takeH11 (i := 7) (d := some 37) (v := .pointer (some ⟨p, 4, none⟩)) rfl rfl (by kernel_rfl) (by kernel_rfl) (by kernel_rfl) (fun _ _ _ h => h) (Or.inl ⟨by rfl, fun w9 hSw => ?_⟩) hH ?_
      · (try dsimp only at hSw); go_simp
      conv => arg 8; simp only [Act.put, List.setIfInBounds_toArray, List.set_cons_zero, List.set_cons_succ]
      refine takeH11 (i := 8) (d := some 38) (v := .bool so) rfl rfl (by kernel_rfl) (by kernel_rfl) (by kernel_rfl) (fun _ _ _ h => h) (Or.inl ⟨by rfl, fun w9 hSw => ?_⟩) hH ?_
      · (try dsimp only at hSw); go_simp
      conv => arg 8; simp only [Act.put, List.setIfInBounds_toArray, List.set_cons_zero, List.set_cons_succ]
      refine wpAnyH_ready (rs := [1, 5, 14]) (by kernel_rfl) (by simp) ?_
      refine AllReadyH.cons rfl (fun K hK => ?_) ?_
      · skip
        go_simp
        have FG := Gs.one (so := so) (e := 30) FS rfl
        have BA := below_alloc u0 (.cells #[.slice ia s.ids.length ic, .slice ka s.keys.length kc, .slice lna s.lens.length lnc, .slice ta s.ts.length tc, .bool so] 30)
        obtain ⟨u1, hu⟩ : ∃ u1, u1 = u0.alloc (.cells #[.slice ia s.ids.length ic, .slice ka s.keys.length kc, .slice lna s.lens.length lnc, .slice ta s.ts.length tc, .bool so] 30) := ⟨_, rfl⟩
        rw [← hu] at FG BA ⊢
        obtain ⟨k1, hk9⟩ : ∃ k1, u0.heap.size = k1 := ⟨_, rfl⟩
        rw [hk9] at FG
        simp only [hk9]
        replace FS := FS.below BA
        have A9 := below_trans' hH.1 BA
        clear hu hk9 BA
        refine hK.out _ _ (unhide HKB _ A9) (fun hH9 => ?_)
        clear hH
        have hH := hH9
        clear hH9 hK K
        try (conv => arg 8; simp only [Act.put, List.setIfInBounds_toArray, List.set_cons_zero, List.set_cons_succ])
        clear A9
        refine wpAnyH_ready (rs := [5, 14]) (by kernel_rfl) (by simp) ?_
        refine AllReadyH.cons rfl (fun K hK => ?_) ?_
        · skip
          go_simp
          refine (CNW u1).mono ?_
          rintro e9 u2 ⟨nw9, rfl, O9, BA⟩
          have FN := Gl.owned O9
          obtain ⟨na9, nc9, hnw, -⟩ := id FN
          subst hnw
          replace FS := FS.below BA
          replace FG := FG.below BA
          have A9 := below_trans' hH.1 BA
          clear BA O9
          refine hK.out _ _ (unhide HKB _ A9) (fun hH9 => ?_)
          clear hH
          have hH := hH9
          clear hH9 hK K
          try (conv => arg 8; simp only [Act.put, List.setIfInBounds_toArray, List.set_cons_zero, List.set_cons_succ])
          clear A9
          refine wpAnyH_ready (rs := [6, 14]) (by kernel_rfl) (by simp) ?_
          refine AllReadyH.cons rfl (fun K hK => ?_) ?_
          · skip
            go_simp
            have FB := Bll.one (e := 38) FN rfl
            have BA := below_alloc u2 (.cells #[.slice na9 LN.length nc9] 38)
            obtain ⟨u3, hu⟩ : ∃ u3, u3 = u2.alloc (.cells #[.slice na9 LN.length nc9] 38) := ⟨_, rfl⟩
            rw [← hu] at FB BA ⊢
            obtain ⟨k6, hk9⟩ : ∃ k6, u2.heap.size = k6 := ⟨_, rfl⟩
            rw [hk9] at FB
            simp only [hk9]
            replace FS := FS.below BA
            replace FG := FG.below BA
            replace FN := FN.below BA
            have A9 := below_trans' hH.1 BA
            clear hu hk9 BA
            refine hK.out _ _ (unhide HKB _ A9) (fun hH9 => ?_)
            clear hH
            have hH := hH9
            clear hH9 hK K
            try (conv => arg 8; simp only [Act.put, List.setIfInBounds_toArray, List.set_cons_zero, List.set_cons_succ])
            clear A9
            refine wpAnyH_ready (rs := [9, 14]) (by kernel_rfl) (by simp) ?_
            refine AllReadyH.cons rfl (fun K hK => ?_) ?_
            · skip
              go_simp
              refine (mergeM_any _ _ [(s, so)] [LN] so u3 FG FB (big_one (s := (s, so)) (unhide F1)) (by simp) (fun hR => by have := G.left_le hR; simp at this; omega)).mono ?_
              rintro e9 u4 h9
              obtain ⟨ja, jb, jc, jd, m1, m2, m3, m4, jia, jib, jic, jid, jv, jb0, jn, rfl, FR, FT, -, ⟨jt1, jt2, jt3, rfl⟩, BA⟩ := h9.ret
              replace FS := FS.below BA
              replace FG := FG.below BA
              replace FN := FN.below BA
              replace FB := FB.below BA
              have A9 := below_trans' hH.1 BA
              clear BA h9
              refine hK.out _ _ (unhide HKB _ A9) (fun hH9 => ?_)
              clear hH
              have hH := hH9
              clear hH9 hK K
              try (conv => arg 8; simp only [Act.put, List.setIfInBounds_toArray, List.set_cons_zero, List.set_cons_succ])
              clear A9
              refine takeH11 (i := 10) (d := some 29) (v := .tuple #[.agg #[.slice ja m1 jia, .slice jb m2 jib, .slice jc m3 jic, .slice jd m4 jid, .bool jb0], .slice jt1 jt2 jt3, .int .i64 jn]) rfl rfl (by kernel_rfl) (by kernel_rfl) (by kernel_rfl) (fun _ _ _ h => h) (Or.inl ⟨by rfl, fun w9 hSw => ?_⟩) hH ?_
              · (try dsimp only at hSw); go_simp
              conv => arg 8; simp only [Act.put, List.setIfInBounds_toArray, List.set_cons_zero, List.set_cons_succ]
              refine takeH11 (i := 11) (d := some 40) (v := .agg #[.slice ja m1 jia, .slice jb m2 jib, .slice jc m3 jic, .slice jd m4 jid, .bool jb0]) rfl rfl (by kernel_rfl) (by kernel_rfl) (by kernel_rfl) (fun _ _ _ h => h) (Or.inl ⟨by rfl, fun w9 hSw => ?_⟩) hH ?_
              · (try dsimp only at hSw); go_simp
              conv => arg 8; simp only [Act.put, List.setIfInBounds_toArray, List.set_cons_zero, List.set_cons_succ]
              refine takeH11 (i := 12) (d := some 41) (v := .slice jt1 jt2 jt3) rfl rfl (by kernel_rfl) (by kernel_rfl) (by kernel_rfl) (fun _ _ _ h => h) (Or.inl ⟨by rfl, fun w9 hSw => ?_⟩) hH ?_
              · (try dsimp only at hSw); go_simp
              conv => arg 8; simp only [Act.put, List.setIfInBounds_toArray, List.set_cons_zero, List.set_cons_succ]
              refine takeH11 (i := 13) (d := some 42) (v := .int .i64 jn) rfl rfl (by kernel_rfl) (by kernel_rfl) (by kernel_rfl) (fun _ _ _ h => h) (Or.inl ⟨by rfl, fun w9 hSw => ?_⟩) hH ?_
              · (try dsimp only at hSw); go_simp
              conv => arg 8; simp only [Act.put, List.setIfInBounds_toArray, List.set_cons_zero, List.set_cons_succ]
              refine wpAnyH_ready (rs := [14]) (by kernel_rfl) (by simp) ?_
              refine AllReadyH.cons rfl (fun K hK => ?_) AllReadyH.nil
              go_simp
              have FX := heap_alloc_new u4 (.cells #[.slice none 0 0, .slice none 0 0, .slice none 0 0, .slice none 0 0, .bool false] 30)
              have BA := below_alloc u4 (.cells #[.slice none 0 0, .slice none 0 0, .slice none 0 0, .slice none 0 0, .bool false] 30)
              have hzz : u4.heap.size + 1 = (u4.alloc (.cells #[.slice none 0 0, .slice none 0 0, .slice none 0 0, .slice none 0 0, .bool false] 30)).heap.size := by simp
              obtain ⟨u5, hu⟩ : ∃ u5, u5 = u4.alloc (.cells #[.slice none 0 0, .slice none 0 0, .slice none 0 0, .slice none 0 0, .bool false] 30) := ⟨_, rfl⟩
              rw [← hu] at FX BA hzz ⊢
              have hgB0 : u4.heap.size ≤ u4.heap.size := Nat.le_refl _
              obtain ⟨g, hk9⟩ : ∃ g, u4.heap.size = g := ⟨_, rfl⟩
              have hg4 : w4.heap.size ≤ g := by rw [← hk9]; exact hH.1.size
              rw [hk9] at FX hzz
              simp only [hk9]
              obtain ⟨uB, huB⟩ : ∃ uB, uB = u4 := ⟨_, rfl⟩
              have hgB : uB.heap.size ≤ g := by rw [huB, hk9]; exact Nat.le_refl _
              have hBA : Below uB.heap.size uB u5 := by rw [huB]; exact BA
              rw [← huB] at FR FT
              have A9 := below_trans' hH.1 BA
              clear hu hk9 BA hzz hgB0 huB
              refine hK.out _ _ (unhide HKB _ A9) (fun hH9 => ?_)
              clear hH
              have hH := hH9
              clear hH9 hK K
              try (conv => arg 8; simp only [Act.put, List.setIfInBounds_toArray, List.set_cons_zero, List.set_cons_succ])
              clear A9
              refine wpAnyH_ready (rs := [15]) (by kernel_rfl) (by simp) ?_
              refine AllReadyH.cons rfl (fun K hK => ?_) AllReadyH.nil
              have s0 := box_cell FX (j := 0) rfl
              have s1 := box_cell FX (j := 1) rfl
              have s2 := box_cell FX (j := 2) rfl
              have s3 := box_cell FX (j := 3) rfl
              have s4 := box_cell FX (j := 4) rfl
              have f0 := bfro FX 0
              have f1 := bfro FX 1
              have f2 := bfro FX 2
              have f3 := bfro FX 3
              have f4 := bfro FX 4
              go_simp
              refine hK.out _ _ (unhide HKB _ (((((hH.1.setCell hg4 _).setCell hg4 _).setCell hg4 _).setCell hg4 _).setCell hg4 _)) (fun hH9 => ?_)
              clear hH
              have hH := hH9
              clear hH9 hK K
              try (conv => arg 8; simp only [Act.put, List.setIfInBounds_toArray, List.set_cons_zero, List.set_cons_succ])
              clear s0 s1 s2 s3 s4 f0 f1 f2 f3 f4
              refine takeH11 (i := 16) (d := some 9) (v := .slice jt1 jt2 jt3) rfl rfl (by kernel_rfl) (by kernel_rfl) (by kernel_rfl) (fun _ _ _ h => h) (Or.inl ⟨by rfl, fun w9 hSw => ?_⟩) hH ?_
              · (try dsimp only at hSw); go_simp
              conv => arg 8; simp only [Act.put, List.setIfInBounds_toArray, List.set_cons_zero, List.set_cons_succ]
              refine takeH11 (i := 17) (d := some 10) (v := .int .i64 jn) rfl rfl (by kernel_rfl) (by kernel_rfl) (by kernel_rfl) (fun _ _ _ h => h) (Or.inl ⟨by rfl, fun w9 hSw => ?_⟩) hH ?_
              · (try dsimp only at hSw); go_simp
              conv => arg 8; simp only [Act.put, List.setIfInBounds_toArray, List.set_cons_zero, List.set_cons_succ]
              refine wpAnyH_done (by kernel_rfl) ?_ _
              have BFV : Below uB.heap.size uB (five u5 g (.slice ja m1 jia) (.slice jb m2 jib) (.slice jc m3 jic) (.slice jd m4 jid) (.bool jb0)) := ((((hBA.setCell hgB _).setCell hgB _).setCell hgB _).setCell hgB _).setCell hgB _
              have ER : RetG (five u5 g (.slice ja m1 jia) (.slice jb m2 jib) (.slice jc m3 jic) (.slice jd m4 jid) (.bool jb0)) [(s, so)] [LN] so (.slice ja m1 jia) (.slice jb m2 jib) (.slice jc m3 jic) (.slice jd m4 jid) jb0 jn := FR.below BFV
              have ET : jn = 0 → Tl (five u5 g (.slice ja m1 jia) (.slice jb m2 jib) (.slice jc m3 jic) (.slice jd m4 jid) (.bool jb0)) (.slice jt1 jt2 jt3) (G.tabs (G.out so (G.left [(s, so)] [LN])).ids [(s, so)] [LN]) := fun h9 => ((FT h9).tl).below BFV
              have EX : (five u5 g (.slice ja m1 jia) (.slice jb m2 jib) (.slice jc m3 jic) (.slice jd m4 jid) (.bool jb0)).heap[g]? = some (.cells #[.slice ja m1 jia, .slice jb m2 jib, .slice jc m3 jic, .slice jd m4 jid, .bool jb0] 30 (0, 0)) := by simpa [five] using bset (bset (bset (bset (bset FX 0 (.slice ja m1 jia)) 1 (.slice jb m2 jib)) 2 (.slice jc m3 jic)) 3 (.slice jd m4 jid)) 4 (.bool jb0)
              unfold five at ER ET EX
              have HER := hide ER
              have HET := hide ET
              have HEX := hide EX
              have HEB := hide hH.1
              clear ER ET EX FX FR FT hH
              go_wp2_with fail
              go_meet
              exact ⟨g, ja, jb, jc, jd, m1, m2, m3, m4, jia, jib, jic, jid, _, jb0, jn, rfl, rfl, rfl, unhide HEX, unhide HER, unhide HET, ⟨_, _, _, rfl⟩, unhide HEB⟩
            refine AllReadyH.cons rfl (fun K hK => ?_) AllReadyH.nil
            go_simp
            have FX := heap_alloc_new u3 (.cells #[.slice none 0 0, .slice none 0 0, .slice none 0 0, .slice none 0 0, .bool false] 30)
            have BA := below_alloc u3 (.cells #[.slice none 0 0, .slice none 0 0, .slice none 0 0, .slice none 0 0, .bool false] 30)
            have hzz : u3.heap.size + 1 = (u3.alloc (.cells #[.slice none 0 0, .slice none 0 0, .slice none 0 0, .slice none 0 0, .bool false] 30)).heap.size := by simp
            obtain ⟨u6, hu⟩ : ∃ u6, u6 = u3.alloc (.cells #[.slice none 0 0, .slice none 0 0, .slice none 0 0, .slice none 0 0, .bool false] 30) := ⟨_, rfl⟩
            rw [← hu] at FX BA hzz ⊢
            have hgB0 : u3.heap.size ≤ u3.heap.size := Nat.le_refl _
            obtain ⟨g, hk9⟩ : ∃ g, u3.heap.size = g := ⟨_, rfl⟩
            have hg4 : w4.heap.size ≤ g := by rw [← hk9]; exact hH.1.size
            rw [hk9] at FX hzz
            simp only [hk9]
            replace FS := FS.below BA
            replace FG := FG.below BA
            replace FN := FN.below BA
            replace FB := FB.below BA
            have A9 := below_trans' hH.1 BA
            have hgS : g < u6.heap.size := by omega
            clear hu hk9 BA hzz hgB0
            refine hK.out _ _ (unhide HKB _ A9) (fun hH9 => ?_)
            clear hH
            have hH := hH9
            clear hH9 hK K
            try (conv => arg 8; simp only [Act.put, List.setIfInBounds_toArray, List.set_cons_zero, List.set_cons_succ])
            clear A9
            refine wpAnyH_ready (rs := [9]) (by kernel_rfl) (by simp) ?_
            refine AllReadyH.cons rfl (fun K hK => ?_) AllReadyH.nil
            have hgB := (Array.getElem?_eq_some_iff.1 FX).1
            go_simp
            refine (mergeM_any _ _ [(s, so)] [LN] so u6 FG FB (big_one (s := (s, so)) (unhide F1)) (by simp) (fun hR => by have := G.left_le hR; simp at this; omega)).mono ?_
            rintro e9 u7 h9
            obtain ⟨ja, jb, jc, jd, m1, m2, m3, m4, jia, jib, jic, jid, jv, jb0, jn, rfl, FR, FT, -, ⟨jt1, jt2, jt3, rfl⟩, BA⟩ := h9.ret
            replace FS := FS.below BA
            replace FG := FG.below BA
            replace FN := FN.below BA
            replace FB := FB.below BA
            replace FX := box_below FX BA
            have A9 := below_trans' hH.1 BA
            clear BA h9
            refine hK.out _ _ (unhide HKB _ A9) (fun hH9 => ?_)
            clear hH
            have hH := hH9
            clear hH9 hK K
            try (conv => arg 8; simp only [Act.put, List.setIfInBounds_toArray, List.set_cons_zero, List.set_cons_succ])
            clear A9
            refine takeH11 (i := 10) (d := some 29) (v := .tuple #[.agg #[.slice ja m1 jia, .slice jb m2 jib, .slice jc m3 jic, .slice jd m4 jid, .bool jb0], .slice jt1 jt2 jt3, .int .i64 jn]) rfl rfl (by kernel_rfl) (by kernel_rfl) (by kernel_rfl) (fun _ _ _ h => h) (Or.inl ⟨by rfl, fun w9 hSw => ?_⟩) hH ?_
            · (try dsimp only at hSw); go_simp
            conv => arg 8; simp only [Act.put, List.setIfInBounds_toArray, List.set_cons_zero, List.set_cons_succ]
            refine takeH11 (i := 11) (d := some 40) (v := .agg #[.slice ja m1 jia, .slice jb m2 jib, .slice jc m3 jic, .slice jd m4 jid, .bool jb0]) rfl rfl (by kernel_rfl) (by kernel_rfl) (by kernel_rfl) (fun _ _ _ h => h) (Or.inl ⟨by rfl, fun w9 hSw => ?_⟩) hH ?_
            · (try dsimp only at hSw); go_simp
            conv => arg 8; simp only [Act.put, List.setIfInBounds_toArray, List.set_cons_zero, List.set_cons_succ]
            refine takeH11 (i := 12) (d := some 41) (v := .slice jt1 jt2 jt3) rfl rfl (by kernel_rfl) (by kernel_rfl) (by kernel_rfl) (fun _ _ _ h => h) (Or.inl ⟨by rfl, fun w9 hSw => ?_⟩) hH ?_
            · (try dsimp only at hSw); go_simp
            conv => arg 8; simp only [Act.put, List.setIfInBounds_toArray, List.set_cons_zero, List.set_cons_succ]
            refine takeH11 (i := 13) (d := some 42) (v := .int .i64 jn) rfl rfl (by kernel_rfl) (by kernel_rfl) (by kernel_rfl) (fun _ _ _ h => h) (Or.inl ⟨by rfl, fun w9 hSw => ?_⟩) hH ?_
            · (try dsimp only at hSw); go_simp
            conv => arg 8; simp only [Act.put, List.setIfInBounds_toArray, List.set_cons_zero, List.set_cons_succ]
            refine wpAnyH_ready (rs := [15]) (by kernel_rfl) (by simp) ?_
            refine AllReadyH.cons rfl (fun K hK => ?_) AllReadyH.nil
            have s0 := box_cell FX (j := 0) rfl
            have s1 := box_cell FX (j := 1) rfl
            have s2 := box_cell FX (j := 2) rfl
            have s3 := box_cell FX (j := 3) rfl
            have s4 := box_cell FX (j := 4) rfl
            have f0 := bfro FX 0
            have f1 := bfro FX 1
            have f2 := bfro FX 2
            have f3 := bfro FX 3
            have f4 := bfro FX 4
            go_simp
            refine hK.out _ _ (unhide HKB _ (((((hH.1.setCell hg4 _).setCell hg4 _).setCell hg4 _).setCell hg4 _).setCell hg4 _)) (fun hH9 => ?_)
            clear hH
            have hH := hH9
            clear hH9 hK K
            try (conv => arg 8; simp only [Act.put, List.setIfInBounds_toArray, List.set_cons_zero, List.set_cons_succ])
            clear s0 s1 s2 s3 s4 f0 f1 f2 f3 f4
            refine takeH11 (i := 16) (d := some 9) (v := .slice jt1 jt2 jt3) rfl rfl (by kernel_rfl) (by kernel_rfl) (by kernel_rfl) (fun _ _ _ h => h) (Or.inl ⟨by rfl, fun w9 hSw => ?_⟩) hH ?_
            · (try dsimp only at hSw); go_simp
            conv => arg 8; simp only [Act.put, List.setIfInBounds_toArray, List.set_cons_zero, List.set_cons_succ]
            refine takeH11 (i := 17) (d := some 10) (v := .int .i64 jn) rfl rfl (by kernel_rfl) (by kernel_rfl) (by kernel_rfl) (fun _ _ _ h => h) (Or.inl ⟨by rfl, fun w9 hSw => ?_⟩) hH ?_
            · (try dsimp only at hSw); go_simp
            conv => arg 8; simp only [Act.put, List.setIfInBounds_toArray, List.set_cons_zero, List.set_cons_succ]
            refine wpAnyH_done (by kernel_rfl) ?_ _
            have ER : RetG (five u7 g (.slice ja m1 jia) (.slice jb m2 jib) (.slice jc m3 jic) (.slice jd m4 jid) (.bool jb0)) [(s, so)] [LN] so (.slice ja m1 jia) (.slice jb m2 jib) (.slice jc m3 jic) (.slice jd m4 jid) jb0 jn := FR.off (bxk_of (a := (none, 0, 0)) (b := (none, 0, 0)) (c := (none, 0, 0)) (d := (none, 0, 0)) FX) (off_five _ _ _ _ _ _ _)
            have ET : jn = 0 → Tl (five u7 g (.slice ja m1 jia) (.slice jb m2 jib) (.slice jc m3 jic) (.slice jd m4 jid) (.bool jb0)) (.slice jt1 jt2 jt3) (G.tabs (G.out so (G.left [(s, so)] [LN])).ids [(s, so)] [LN]) := fun h9 => ((FT h9).five hgB _ _ _ _ _).tl
            have EX : (five u7 g (.slice ja m1 jia) (.slice jb m2 jib) (.slice jc m3 jic) (.slice jd m4 jid) (.bool jb0)).heap[g]? = some (.cells #[.slice ja m1 jia, .slice jb m2 jib, .slice jc m3 jic, .slice jd m4 jid, .bool jb0] 30 (0, 0)) := by simpa [five] using bset (bset (bset (bset (bset FX 0 (.slice ja m1 jia)) 1 (.slice jb m2 jib)) 2 (.slice jc m3 jic)) 3 (.slice jd m4 jid)) 4 (.bool jb0)
            unfold five at ER ET EX
            have HER := hide ER
            have HET := hide ET
            have HEX := hide EX
            have HEB := hide hH.1
            clear ER ET EX FX FR FT hH
            go_wp2_with fail
            go_meet
            exact ⟨g, ja, jb, jc, jd, m1, m2, m3, m4, jia, jib, jic, jid, _, jb0, jn, rfl, rfl, rfl, unhide HEX, unhide HER, unhide HET, ⟨_, _, _, rfl⟩, unhide HEB⟩
          refine AllReadyH.cons rfl (fun K hK => ?_) AllReadyH.nil
          go_simp
          have FX := heap_alloc_new u2 (.cells #[.slice none 0 0, .slice none 0 0, .slice none 0 0, .slice none 0 0, .bool false] 30)
          have BA := below_alloc u2 (.cells #[.slice none 0 0, .slice none 0 0, .slice none 0 0, .slice none 0 0, .bool false] 30)
          have hzz : u2.heap.size + 1 = (u2.alloc (.cells #[.slice none 0 0, .slice none 0 0, .slice none 0 0, .slice none 0 0, .bool false] 30)).heap.size := by simp
          obtain ⟨u8, hu⟩ : ∃ u8, u8 = u2.alloc (.cells #[.slice none 0 0, .slice none 0 0, .slice none 0 0, .slice none 0 0, .bool false] 30) := ⟨_, rfl⟩
          rw [← hu] at FX BA hzz ⊢
          have hgB0 : u2.heap.size ≤ u2.heap.size := Nat.le_refl _
          obtain ⟨g, hk9⟩ : ∃ g, u2.heap.size = g := ⟨_, rfl⟩
          have hg4 : w4.heap.size ≤ g := by rw [← hk9]; exact hH.1.size
          rw [hk9] at FX hzz
          simp only [hk9]
          replace FS := FS.below BA
          replace FG := FG.below BA
          replace FN := FN.below BA
          have A9 := below_trans' hH.1 BA
          have hgS : g < u8.heap.size := by omega
          clear hu hk9 BA hzz hgB0
          refine hK.out _ _ (unhide HKB _ A9) (fun hH9 => ?_)
          clear hH
          have hH := hH9
          clear hH9 hK K
          try (conv => arg 8; simp only [Act.put, List.setIfInBounds_toArray, List.set_cons_zero, List.set_cons_succ])
          clear A9
          refine wpAnyH_ready (rs := [6]) (by kernel_rfl) (by simp) ?_
          refine AllReadyH.cons rfl (fun K hK => ?_) AllReadyH.nil
          go_simp
          have FB := Bll.one (e := 38) FN rfl
          have BA := below_alloc u8 (.cells #[.slice na9 LN.length nc9] 38)
          obtain ⟨u9, hu⟩ : ∃ u9, u9 = u8.alloc (.cells #[.slice na9 LN.length nc9] 38) := ⟨_, rfl⟩
          rw [← hu] at FB BA ⊢
          obtain ⟨k6, hk9⟩ : ∃ k6, u8.heap.size = k6 := ⟨_, rfl⟩
          rw [hk9] at FB
          simp only [hk9]
          replace FS := FS.below BA
          replace FG := FG.below BA
          replace FN := FN.below BA
          replace FX := box_below FX BA
          have A9 := below_trans' hH.1 BA
          clear hu hk9 BA
          refine hK.out _ _ (unhide HKB _ A9) (fun hH9 => ?_)
          clear hH
          have hH := hH9
          clear hH9 hK K
          try (conv => arg 8; simp only [Act.put, List.setIfInBounds_toArray, List.set_cons_zero, List.set_cons_succ])
          clear A9
          refine wpAnyH_ready (rs := [9]) (by kernel_rfl) (by simp) ?_
          refine AllReadyH.cons rfl (fun K hK => ?_) AllReadyH.nil
          have hgB := (Array.getElem?_eq_some_iff.1 FX).1
          go_simp
          refine (mergeM_any _ _ [(s, so)] [LN] so u9 FG FB (big_one (s := (s, so)) (unhide F1)) (by simp) (fun hR => by have := G.left_le hR; simp at this; omega)).mono ?_
          rintro e9 u10 h9
          obtain ⟨ja, jb, jc, jd, m1, m2, m3, m4, jia, jib, jic, jid, jv, jb0, jn, rfl, FR, FT, -, ⟨jt1, jt2, jt3, rfl⟩, BA⟩ := h9.ret
          replace FS := FS.below BA
          replace FG := FG.below BA
          replace FN := FN.below BA
          replace FB := FB.below BA
          replace FX := box_below FX BA
          have A9 := below_trans' hH.1 BA
          clear BA h9
          refine hK.out _ _ (unhide HKB _ A9) (fun hH9 => ?_)
          clear hH
          have hH := hH9
          clear hH9 hK K
          try (conv => arg 8; simp only [Act.put, List.setIfInBounds_toArray, List.set_cons_zero, List.set_cons_succ])
          clear A9
          refine takeH11 (i := 10) (d := some 29) (v := .tuple #[.agg #[.slice ja m1 jia, .slice jb m2 jib, .slice jc m3 jic, .slice jd m4 jid, .bool jb0], .slice jt1 jt2 jt3, .int .i64 jn]) rfl rfl (by kernel_rfl) (by kernel_rfl) (by kernel_rfl) (fun _ _ _ h => h) (Or.inl ⟨by rfl, fun w9 hSw => ?_⟩) hH ?_
          · (try dsimp only at hSw); go_simp
          conv => arg 8; simp only [Act.put, List.setIfInBounds_toArray, List.set_cons_zero, List.set_cons_succ]
          refine takeH11 (i := 11) (d := some 40) (v := .agg #[.slice ja m1 jia, .slice jb m2 jib, .slice jc m3 jic, .slice jd m4 jid, .bool jb0]) rfl rfl (by kernel_rfl) (by kernel_rfl) (by kernel_rfl) (fun _ _ _ h => h) (Or.inl ⟨by rfl, fun w9 hSw => ?_⟩) hH ?_
          · (try dsimp only at hSw); go_simp
          conv => arg 8; simp only [Act.put, List.setIfInBounds_toArray, List.set_cons_zero, List.set_cons_succ]
          refine takeH11 (i := 12) (d := some 41) (v := .slice jt1 jt2 jt3) rfl rfl (by kernel_rfl) (by kernel_rfl) (by kernel_rfl) (fun _ _ _ h => h) (Or.inl ⟨by rfl, fun w9 hSw => ?_⟩) hH ?_
          · (try dsimp only at hSw); go_simp
          conv => arg 8; simp only [Act.put, List.setIfInBounds_toArray, List.set_cons_zero, List.set_cons_succ]
          refine takeH11 (i := 13) (d := some 42) (v := .int .i64 jn) rfl rfl (by kernel_rfl) (by kernel_rfl) (by kernel_rfl) (fun _ _ _ h => h) (Or.inl ⟨by rfl, fun w9 hSw => ?_⟩) hH ?_
          · (try dsimp only at hSw); go_simp
          conv => arg 8; simp only [Act.put, List.setIfInBounds_toArray, List.set_cons_zero, List.set_cons_succ]
          refine wpAnyH_ready (rs := [15]) (by kernel_rfl) (by simp) ?_
          refine AllReadyH.cons rfl (fun K hK => ?_) AllReadyH.nil
          have s0 := box_cell FX (j := 0) rfl
          have s1 := box_cell FX (j := 1) rfl
          have s2 := box_cell FX (j := 2) rfl
          have s3 := box_cell FX (j := 3) rfl
          have s4 := box_cell FX (j := 4) rfl
          have f0 := bfro FX 0
          have f1 := bfro FX 1
          have f2 := bfro FX 2
          have f3 := bfro FX 3
          have f4 := bfro FX 4
          go_simp
          refine hK.out _ _ (unhide HKB _ (((((hH.1.setCell hg4 _).setCell hg4 _).setCell hg4 _).setCell hg4 _).setCell hg4 _)) (fun hH9 => ?_)
          clear hH
          have hH := hH9
          clear hH9 hK K
          try (conv => arg 8; simp only [Act.put, List.setIfInBounds_toArray, List.set_cons_zero, List.set_cons_succ])
          clear s0 s1 s2 s3 s4 f0 f1 f2 f3 f4
          refine takeH11 (i := 16) (d := some 9) (v := .slice jt1 jt2 jt3) rfl rfl (by kernel_rfl) (by kernel_rfl) (by kernel_rfl) (fun _ _ _ h => h) (Or.inl ⟨by rfl, fun w9 hSw => ?_⟩) hH ?_
          · (try dsimp only at hSw); go_simp
          conv => arg 8; simp only [Act.put, List.setIfInBounds_toArray, List.set_cons_zero, List.set_cons_succ]
          refine takeH11 (i := 17) (d := some 10) (v := .int .i64 jn) rfl rfl (by kernel_rfl) (by kernel_rfl) (by kernel_rfl) (fun _ _ _ h => h) (Or.inl ⟨by rfl, fun w9 hSw => ?_⟩) hH ?_
          · (try dsimp only at hSw); go_simp
          conv => arg 8; simp only [Act.put, List.setIfInBounds_toArray, List.set_cons_zero, List.set_cons_succ]
          refine wpAnyH_done (by kernel_rfl) ?_ _
          have ER : RetG (five u10 g (.slice ja m1 jia) (.slice jb m2 jib) (.slice jc m3 jic) (.slice jd m4 jid) (.bool jb0)) [(s, so)] [LN] so (.slice ja m1 jia) (.slice jb m2 jib) (.slice jc m3 jic) (.slice jd m4 jid) jb0 jn := FR.off (bxk_of (a := (none, 0, 0)) (b := (none, 0, 0)) (c := (none, 0, 0)) (d := (none, 0, 0)) FX) (off_five _ _ _ _ _ _ _)
          have ET : jn = 0 → Tl (five u10 g (.slice ja m1 jia) (.slice jb m2 jib) (.slice jc m3 jic) (.slice jd m4 jid) (.bool jb0)) (.slice jt1 jt2 jt3) (G.tabs (G.out so (G.left [(s, so)] [LN])).ids [(s, so)] [LN]) := fun h9 => ((FT h9).five hgB _ _ _ _ _).tl
          have EX : (five u10 g (.slice ja m1 jia) (.slice jb m2 jib) (.slice jc m3 jic) (.slice jd m4 jid) (.bool jb0)).heap[g]? = some (.cells #[.slice ja m1 jia, .slice jb m2 jib, .slice jc m3 jic, .slice jd m4 jid, .bool jb0] 30 (0, 0)) := by simpa [five] using bset (bset (bset (bset (bset FX 0 (.slice ja m1 jia)) 1 (.slice jb m2 jib)) 2 (.slice jc m3 jic)) 3 (.slice jd m4 jid)) 4 (.bool jb0)
          unfold five at ER ET EX
          have HER := hide ER
          have HET := hide ET
          have HEX := hide EX
          have HEB := hide hH.1
          clear ER ET EX FX FR FT hH
          go_wp2_with fail
          go_meet
          exact ⟨g, ja, jb, jc, jd, m1, m2, m3, m4, jia, jib, jic, jid, _, jb0, jn, rfl, rfl, rfl, unhide HEX, unhide HER, unhide HET, ⟨_, _, _, rfl⟩, unhide HEB⟩
        refine AllReadyH.cons rfl (fun K hK => ?_) AllReadyH.nil
        go_simp
        have FX := heap_alloc_new u1 (.cells #[.slice none 0 0, .slice none 0 0, .slice none 0 0, .slice none 0 0, .bool false] 30)
        have BA := below_alloc u1 (.cells #[.slice none 0 0, .slice none 0 0, .slice none 0 0, .slice none 0 0, .bool false] 30)
        have hzz : u1.heap.size + 1 = (u1.alloc (.cells #[.slice none 0 0, .slice none 0 0, .slice none 0 0, .slice none 0 0, .bool false] 30)).heap.size := by simp
        obtain ⟨u11, hu⟩ : ∃ u11, u11 = u1.alloc (.cells #[.slice none 0 0, .slice none 0 0, .slice none 0 0, .slice none 0 0, .bool false] 30) := ⟨_, rfl⟩
        rw [← hu] at FX BA hzz ⊢
        have hgB0 : u1.heap.size ≤ u1.heap.size := Nat.le_refl _
        obtain ⟨g, hk9⟩ : ∃ g, u1.heap.size = g := ⟨_, rfl⟩
        have hg4 : w4.heap.size ≤ g := by rw [← hk9]; exact hH.1.size
        rw [hk9] at FX hzz
        simp only [hk9]
        replace FS := FS.below BA
        replace FG := FG.below BA
        have A9 := below_trans' hH.1 BA
        have hgS : g < u11.heap.size := by omega
        clear hu hk9 BA hzz hgB0
        refine hK.out _ _ (unhide HKB _ A9) (fun hH9 => ?_)
        clear hH
        have hH := hH9
        clear hH9 hK K
        try (conv => arg 8; simp only [Act.put, List.setIfInBounds_toArray, List.set_cons_zero, List.set_cons_succ])
        clear A9
        refine wpAnyH_ready (rs := [5]) (by kernel_rfl) (by simp) ?_
        refine AllReadyH.cons rfl (fun K hK => ?_) AllReadyH.nil
        go_simp
        refine (CNW u11).mono ?_
        rintro e9 u12 ⟨nw9, rfl, O9, BA⟩
        have FN := Gl.owned O9
        obtain ⟨na9, nc9, hnw, -⟩ := id FN
        subst hnw
        replace FS := FS.below BA
        replace FG := FG.below BA
        replace FX := box_below FX BA
        have A9 := below_trans' hH.1 BA
        clear BA O9
        refine hK.out _ _ (unhide HKB _ A9) (fun hH9 => ?_)
        clear hH
        have hH := hH9
        clear hH9 hK K
        try (conv => arg 8; simp only [Act.put, List.setIfInBounds_toArray, List.set_cons_zero, List.set_cons_succ])
        clear A9
        refine wpAnyH_ready (rs := [6]) (by kernel_rfl) (by simp) ?_
        refine AllReadyH.cons rfl (fun K hK => ?_) AllReadyH.nil
        go_simp
        have FB := Bll.one (e := 38) FN rfl
        have BA := below_alloc u12 (.cells #[.slice na9 LN.length nc9] 38)
        obtain ⟨u13, hu⟩ : ∃ u13, u13 = u12.alloc (.cells #[.slice na9 LN.length nc9] 38) := ⟨_, rfl⟩
        rw [← hu] at FB BA ⊢
        obtain ⟨k6, hk9⟩ : ∃ k6, u12.heap.size = k6 := ⟨_, rfl⟩
        rw [hk9] at FB
        simp only [hk9]
        replace FS := FS.below BA
        replace FG := FG.below BA
        replace FN := FN.below BA
        replace FX := box_below FX BA
        have A9 := below_trans' hH.1 BA
        clear hu hk9 BA
        refine hK.out _ _ (unhide HKB _ A9) (fun hH9 => ?_)
        clear hH
        have hH := hH9
        clear hH9 hK K
        try (conv => arg 8; simp only [Act.put, List.setIfInBounds_toArray, List.set_cons_zero, List.set_cons_succ])
        clear A9
        refine wpAnyH_ready (rs := [9]) (by kernel_rfl) (by simp) ?_
        refine AllReadyH.cons rfl (fun K hK => ?_) AllReadyH.nil
        have hgB := (Array.getElem?_eq_some_iff.1 FX).1
        go_simp
        refine (mergeM_any _ _ [(s, so)] [LN] so u13 FG FB (big_one (s := (s, so)) (unhide F1)) (by simp) (fun hR => by have := G.left_le hR; simp at this; omega)).mono ?_
        rintro e9 u14 h9
        obtain ⟨ja, jb, jc, jd, m1, m2, m3, m4, jia, jib, jic, jid, jv, jb0, jn, rfl, FR, FT, -, ⟨jt1, jt2, jt3, rfl⟩, BA⟩ := h9.ret
        replace FS := FS.below BA
        replace FG := FG.below BA
        replace FN := FN.below BA
        replace FB := FB.below BA
        replace FX := box_below FX BA
        have A9 := below_trans' hH.1 BA
        clear BA h9
        refine hK.out _ _ (unhide HKB _ A9) (fun hH9 => ?_)
        clear hH
        have hH := hH9
        clear hH9 hK K
        try (conv => arg 8; simp only [Act.put, List.setIfInBounds_toArray, List.set_cons_zero, List.set_cons_succ])
        clear A9
        refine takeH11 (i := 10) (d := some 29) (v := .tuple #[.agg #[.slice ja m1 jia, .slice jb m2 jib, .slice jc m3 jic, .slice jd m4 jid, .bool jb0], .slice jt1 jt2 jt3, .int .i64 jn]) rfl rfl (by kernel_rfl) (by kernel_rfl) (by kernel_rfl) (fun _ _ _ h => h) (Or.inl ⟨by rfl, fun w9 hSw => ?_⟩) hH ?_
        · (try dsimp only at hSw); go_simp
        conv => arg 8; simp only [Act.put, List.setIfInBounds_toArray, List.set_cons_zero, List.set_cons_succ]
        refine takeH11 (i := 11) (d := some 40) (v := .agg #[.slice ja m1 jia, .slice jb m2 jib, .slice jc m3 jic, .slice jd m4 jid, .bool jb0]) rfl rfl (by kernel_rfl) (by kernel_rfl) (by kernel_rfl) (fun _ _ _ h => h) (Or.inl ⟨by rfl, fun w9 hSw => ?_⟩) hH ?_
        · (try dsimp only at hSw); go_simp
        conv => arg 8; simp only [Act.put, List.setIfInBounds_toArray, List.set_cons_zero, List.set_cons_succ]
        refine takeH11 (i := 12) (d := some 41) (v := .slice jt1 jt2 jt3) rfl rfl (by kernel_rfl) (by kernel_rfl) (by kernel_rfl) (fun _ _ _ h => h) (Or.inl ⟨by rfl, fun w9 hSw => ?_⟩) hH ?_
        · (try dsimp only at hSw); go_simp
        conv => arg 8; simp only [Act.put, List.setIfInBounds_toArray, List.set_cons_zero, List.set_cons_succ]
        refine takeH11 (i := 13) (d := some 42) (v := .int .i64 jn) rfl rfl (by kernel_rfl) (by kernel_rfl) (by kernel_rfl) (fun _ _ _ h => h) (Or.inl ⟨by rfl, fun w9 hSw => ?_⟩) hH ?_
        · (try dsimp only at hSw); go_simp
        conv => arg 8; simp only [Act.put, List.setIfInBounds_toArray, List.set_cons_zero, List.set_cons_succ]
        refine wpAnyH_ready (rs := [15]) (by kernel_rfl) (by simp) ?_
        refine AllReadyH.cons rfl (fun K hK => ?_) AllReadyH.nil
        have s0 := box_cell FX (j := 0) rfl
        have s1 := box_cell FX (j := 1) rfl
        have s2 := box_cell FX (j := 2) rfl
        have s3 := box_cell FX (j := 3) rfl
        have s4 := box_cell FX (j := 4) rfl
        have f0 := bfro FX 0
        have f1 := bfro FX 1
        have f2 := bfro FX 2
        have f3 := bfro FX 3
        have f4 := bfro FX 4
        go_simp
        refine hK.out _ _ (unhide HKB _ (((((hH.1.setCell hg4 _).setCell hg4 _).setCell hg4 _).setCell hg4 _).setCell hg4 _)) (fun hH9 => ?_)
        clear hH
        have hH := hH9
        clear hH9 hK K
        try (conv => arg 8; simp only [Act.put, List.setIfInBounds_toArray, List.set_cons_zero, List.set_cons_succ])
        clear s0 s1 s2 s3 s4 f0 f1 f2 f3 f4
        refine takeH11 (i := 16) (d := some 9) (v := .slice jt1 jt2 jt3) rfl rfl (by kernel_rfl) (by kernel_rfl) (by kernel_rfl) (fun _ _ _ h => h) (Or.inl ⟨by rfl, fun w9 hSw => ?_⟩) hH ?_
        · (try dsimp only at hSw); go_simp
        conv => arg 8; simp only [Act.put, List.setIfInBounds_toArray, List.set_cons_zero, List.set_cons_succ]
        refine takeH11 (i := 17) (d := some 10) (v := .int .i64 jn) rfl rfl (by kernel_rfl) (by kernel_rfl) (by kernel_rfl) (fun _ _ _ h => h) (Or.inl ⟨by rfl, fun w9 hSw => ?_⟩) hH ?_
        · (try dsimp only at hSw); go_simp
        conv => arg 8; simp only [Act.put, List.setIfInBounds_toArray, List.set_cons_zero, List.set_cons_succ]
        refine wpAnyH_done (by kernel_rfl) ?_ _
        have ER : RetG (five u14 g (.slice ja m1 jia) (.slice jb m2 jib) (.slice jc m3 jic) (.slice jd m4 jid) (.bool jb0)) [(s, so)] [LN] so (.slice ja m1 jia) (.slice jb m2 jib) (.slice jc m3 jic) (.slice jd m4 jid) jb0 jn := FR.off (bxk_of (a := (none, 0, 0)) (b := (none, 0, 0)) (c := (none, 0, 0)) (d := (none, 0, 0)) FX) (off_five _ _ _ _ _ _ _)
        have ET : jn = 0 → Tl (five u14 g (.slice ja m1 jia) (.slice jb m2 jib) (.slice jc m3 jic) (.slice jd m4 jid) (.bool jb0)) (.slice jt1 jt2 jt3) (G.tabs (G.out so (G.left [(s, so)] [LN])).ids [(s, so)] [LN]) := fun h9 => ((FT h9).five hgB _ _ _ _ _).tl
        have EX : (five u14 g (.slice ja m1 jia) (.slice jb m2 jib) (.slice jc m3 jic) (.slice jd m4 jid) (.bool jb0)).heap[g]? = some (.cells #[.slice ja m1 jia, .slice jb m2 jib, .slice jc m3 jic, .slice jd m4 jid, .bool jb0] 30 (0, 0)) := by simpa [five] using bset (bset (bset (bset (bset FX 0 (.slice ja m1 jia)) 1 (.slice jb m2 jib)) 2 (.slice jc m3 jic)) 3 (.slice jd m4 jid)) 4 (.bool jb0)
        unfold five at ER ET EX
        have HER := hide ER
        have HET := hide ET
        have HEX := hide EX
        have HEB := hide hH.1
        clear ER ET EX FX FR FT hH
        go_wp2_with fail
        go_meet
        exact ⟨g, ja, jb, jc, jd, m1, m2, m3, m4, jia, jib, jic, jid, _, jb0, jn, rfl, rfl, rfl, unhide HEX, unhide HER, unhide HET, ⟨_, _, _, rfl⟩, unhide HEB⟩
      refine AllReadyH.cons rfl (fun K hK => ?_) ?_
      · skip
        go_simp
        refine (CNW u0).mono ?_
        rintro e9 u15 ⟨nw9, rfl, O9, BA⟩
        have FN := Gl.owned O9
        obtain ⟨na9, nc9, hnw, -⟩ := id FN
        subst hnw
        replace FS := FS.below BA
        have A9 := below_trans' hH.1 BA
        clear BA O9
        refine hK.out _ _ (unhide HKB _ A9) (fun hH9 => ?_)
        clear hH
        have hH := hH9
        clear hH9 hK K
        try (conv => arg 8; simp only [Act.put, List.setIfInBounds_toArray, List.set_cons_zero, List.set_cons_succ])
        clear A9
        refine wpAnyH_ready (rs := [1, 6, 14]) (by kernel_rfl) (by simp) ?_
        refine AllReadyH.cons rfl (fun K hK => ?_) ?_
        · skip
          go_simp
          have FG := Gs.one (so := so) (e := 30) FS rfl
          have BA := below_alloc u15 (.cells #[.slice ia s.ids.length ic, .slice ka s.keys.length kc, .slice lna s.lens.length lnc, .slice ta s.ts.length tc, .bool so] 30)
          obtain ⟨u16, hu⟩ : ∃ u16, u16 = u15.alloc (.cells #[.slice ia s.ids.length ic, .slice ka s.keys.length kc, .slice lna s.lens.length lnc, .slice ta s.ts.length tc, .bool so] 30) := ⟨_, rfl⟩
          rw [← hu] at FG BA ⊢
          obtain ⟨k1, hk9⟩ : ∃ k1, u15.heap.size = k1 := ⟨_, rfl⟩
          rw [hk9] at FG
          simp only [hk9]
          replace FS := FS.below BA
          replace FN := FN.below BA
          have A9 := below_trans' hH.1 BA
          clear hu hk9 BA
          refine hK.out _ _ (unhide HKB _ A9) (fun hH9 => ?_)
          clear hH
          have hH := hH9
          clear hH9 hK K
          try (conv => arg 8; simp only [Act.put, List.setIfInBounds_toArray, List.set_cons_zero, List.set_cons_succ])
          clear A9
          refine wpAnyH_ready (rs := [6, 14]) (by kernel_rfl) (by simp) ?_
          refine AllReadyH.cons rfl (fun K hK => ?_) ?_
          · skip
            go_simp
            have FB := Bll.one (e := 38) FN rfl
            have BA := below_alloc u16 (.cells #[.slice na9 LN.length nc9] 38)
            obtain ⟨u17, hu⟩ : ∃ u17, u17 = u16.alloc (.cells #[.slice na9 LN.length nc9] 38) := ⟨_, rfl⟩
            rw [← hu] at FB BA ⊢
            obtain ⟨k6, hk9⟩ : ∃ k6, u16.heap.size = k6 := ⟨_, rfl⟩
            rw [hk9] at FB
            simp only [hk9]
            replace FS := FS.below BA
            replace FG := FG.below BA
            replace FN := FN.below BA
            have A9 := below_trans' hH.1 BA
            clear hu hk9 BA
            refine hK.out _ _ (unhide HKB _ A9) (fun hH9 => ?_)
            clear hH
            have hH := hH9
            clear hH9 hK K
            try (conv => arg 8; simp only [Act.put, List.setIfInBounds_toArray, List.set_cons_zero, List.set_cons_succ])
            clear A9
            refine wpAnyH_ready (rs := [9, 14]) (by kernel_rfl) (by simp) ?_
            refine AllReadyH.cons rfl (fun K hK => ?_) ?_
            · skip
              go_simp
              refine (mergeM_any _ _ [(s, so)] [LN] so u17 FG FB (big_one (s := (s, so)) (unhide F1)) (by simp) (fun hR => by have := G.left_le hR; simp at this; omega)).mono ?_
              rintro e9 u18 h9
              obtain ⟨ja, jb, jc, jd, m1, m2, m3, m4, jia, jib, jic, jid, jv, jb0, jn, rfl, FR, FT, -, ⟨jt1, jt2, jt3, rfl⟩, BA⟩ := h9.ret
              replace FS := FS.below BA
              replace FG := FG.below BA
              replace FN := FN.below BA
              replace FB := FB.below BA
              have A9 := below_trans' hH.1 BA
              clear BA h9
              refine hK.out _ _ (unhide HKB _ A9) (fun hH9 => ?_)
              clear hH
              have hH := hH9
              clear hH9 hK K
              try (conv => arg 8; simp only [Act.put, List.setIfInBounds_toArray, List.set_cons_zero, List.set_cons_succ])
              clear A9
              refine takeH11 (i := 10) (d := some 29) (v := .tuple #[.agg #[.slice ja m1 jia, .slice jb m2 jib, .slice jc m3 jic, .slice jd m4 jid, .bool jb0], .slice jt1 jt2 jt3, .int .i64 jn]) rfl rfl (by kernel_rfl) (by kernel_rfl) (by kernel_rfl) (fun _ _ _ h => h) (Or.inl ⟨by rfl, fun w9 hSw => ?_⟩) hH ?_
              · (try dsimp only at hSw); go_simp
              conv => arg 8; simp only [Act.put, List.setIfInBounds_toArray, List.set_cons_zero, List.set_cons_succ]
              refine takeH11 (i := 11) (d := some 40) (v := .agg #[.slice ja m1 jia, .slice jb m2 jib, .slice jc m3 jic, .slice jd m4 jid, .bool jb0]) rfl rfl (by kernel_rfl) (by kernel_rfl) (by kernel_rfl) (fun _ _ _ h => h) (Or.inl ⟨by rfl, fun w9 hSw => ?_⟩) hH ?_
              · (try dsimp only at hSw); go_simp
              conv => arg 8; simp only [Act.put, List.setIfInBounds_toArray, List.set_cons_zero, List.set_cons_succ]
              refine takeH11 (i := 12) (d := some 41) (v := .slice jt1 jt2 jt3) rfl rfl (by kernel_rfl) (by kernel_rfl) (by kernel_rfl) (fun _ _ _ h => h) (Or.inl ⟨by rfl, fun w9 hSw => ?_⟩) hH ?_
              · (try dsimp only at hSw); go_simp
              conv => arg 8; simp only [Act.put, List.setIfInBounds_toArray, List.set_cons_zero, List.set_cons_succ]
              refine takeH11 (i := 13) (d := some 42) (v := .int .i64 jn) rfl rfl (by kernel_rfl) (by kernel_rfl) (by kernel_rfl) (fun _ _ _ h => h) (Or.inl ⟨by rfl, fun w9 hSw => ?_⟩) hH ?_
              · (try dsimp only at hSw); go_simp
              conv => arg 8; simp only [Act.put, List.setIfInBounds_toArray, List.set_cons_zero, List.set_cons_succ]
              refine wpAnyH_ready (rs := [14]) (by kernel_rfl) (by simp) ?_
              refine AllReadyH.cons rfl (fun K hK => ?_) AllReadyH.nil
              go_simp
              have FX := heap_alloc_new u18 (.cells #[.slice none 0 0, .slice none 0 0, .slice none 0 0, .slice none 0 0, .bool false] 30)
              have BA := below_alloc u18 (.cells #[.slice none 0 0, .slice none 0 0, .slice none 0 0, .slice none 0 0, .bool false] 30)
              have hzz : u18.heap.size + 1 = (u18.alloc (.cells #[.slice none 0 0, .slice none 0 0, .slice none 0 0, .slice none 0 0, .bool false] 30)).heap.size := by simp
              obtain ⟨u19, hu⟩ : ∃ u19, u19 = u18.alloc (.cells #[.slice none 0 0, .slice none 0 0, .slice none 0 0, .slice none 0 0, .bool false] 30) := ⟨_, rfl⟩
              rw [← hu] at FX BA hzz ⊢
              have hgB0 : u18.heap.size ≤ u18.heap.size := Nat.le_refl _
              obtain ⟨g, hk9⟩ : ∃ g, u18.heap.size = g := ⟨_, rfl⟩
              have hg4 : w4.heap.size ≤ g := by rw [← hk9]; exact hH.1.size
              rw [hk9] at FX hzz
              simp only [hk9]
              obtain ⟨uB, huB⟩ : ∃ uB, uB = u18 := ⟨_, rfl⟩
              have hgB : uB.heap.size ≤ g := by rw [huB, hk9]; exact Nat.le_refl _
              have hBA : Below uB.heap.size uB u19 := by rw [huB]; exact BA
              rw [← huB] at FR FT
              have A9 := below_trans' hH.1 BA
              clear hu hk9 BA hzz hgB0 huB
              refine hK.out _ _ (unhide HKB _ A9) (fun hH9 => ?_)
              clear hH
              have hH := hH9
              clear hH9 hK K
              try (conv => arg 8; simp only [Act.put, List.setIfInBounds_toArray, List.set_cons_zero, List.set_cons_succ])
              clear A9
              refine wpAnyH_ready (rs := [15]) (by kernel_rfl) (by simp) ?_
              refine AllReadyH.cons rfl (fun K hK => ?_) AllReadyH.nil
              have s0 := box_cell FX (j := 0) rfl
              have s1 := box_cell FX (j := 1) rfl
              have s2 := box_cell FX (j := 2) rfl
              have s3 := box_cell FX (j := 3) rfl
              have s4 := box_cell FX (j := 4) rfl
              have f0 := bfro FX 0
              have f1 := bfro FX 1
              have f2 := bfro FX 2
              have f3 := bfro FX 3
              have f4 := bfro FX 4
              go_simp
              refine hK.out _ _ (unhide HKB _ (((((hH.1.setCell hg4 _).setCell hg4 _).setCell hg4 _).setCell hg4 _).setCell hg4 _)) (fun hH9 => ?_)
              clear hH
              have hH := hH9
              clear hH9 hK K
              try (conv => arg 8; simp only [Act.put, List.setIfInBounds_toArray, List.set_cons_zero, List.set_cons_succ])
              clear s0 s1 s2 s3 s4 f0 f1 f2 f3 f4
              refine takeH11 (i := 16) (d := some 9) (v := .slice jt1 jt2 jt3) rfl rfl (by kernel_rfl) (by kernel_rfl) (by kernel_rfl) (fun _ _ _ h => h) (Or.inl ⟨by rfl, fun w9 hSw => ?_⟩) hH ?_
              · (try dsimp only at hSw); go_simp
              conv => arg 8; simp only [Act.put, List.setIfInBounds_toArray, List.set_cons_zero, List.set_cons_succ]
              refine takeH11 (i := 17) (d := some 10) (v := .int .i64 jn) rfl rfl (by kernel_rfl) (by kernel_rfl) (by kernel_rfl) (fun _ _ _ h => h) (Or.inl ⟨by rfl, fun w9 hSw => ?_⟩) hH ?_
              · (try dsimp only at hSw); go_simp
              conv => arg 8; simp only [Act.put, List.setIfInBounds_toArray, List.set_cons_zero, List.set_cons_succ]
              refine wpAnyH_done (by kernel_rfl) ?_ _
              have BFV : Below uB.heap.size uB (five u19 g (.slice ja m1 jia) (.slice jb m2 jib) (.slice jc m3 jic) (.slice jd m4 jid) (.bool jb0)) := ((((hBA.setCell hgB _).setCell hgB _).setCell hgB _).setCell hgB _).setCell hgB _
              have ER : RetG (five u19 g (.slice ja m1 jia) (.slice jb m2 jib) (.slice jc m3 jic) (.slice jd m4 jid) (.bool jb0)) [(s, so)] [LN] so (.slice ja m1 jia) (.slice jb m2 jib) (.slice jc m3 jic) (.slice jd m4 jid) jb0 jn := FR.below BFV
              have ET : jn = 0 → Tl (five u19 g (.slice ja m1 jia) (.slice jb m2 jib) (.slice jc m3 jic) (.slice jd m4 jid) (.bool jb0)) (.slice jt1 jt2 jt3) (G.tabs (G.out so (G.left [(s, so)] [LN])).ids [(s, so)] [LN]) := fun h9 => ((FT h9).tl).below BFV
              have EX : (five u19 g (.slice ja m1 jia) (.slice jb m2 jib) (.slice jc m3 jic) (.slice jd m4 jid) (.bool jb0)).heap[g]? = some (.cells #[.slice ja m1 jia, .slice jb m2 jib, .slice jc m3 jic, .slice jd m4 jid, .bool jb0] 30 (0, 0)) := by simpa [five] using bset (bset (bset (bset (bset FX 0 (.slice ja m1 jia)) 1 (.slice jb m2 jib)) 2 (.slice jc m3 jic)) 3 (.slice jd m4 jid)) 4 (.bool jb0)
              unfold five at ER ET EX
              have HER := hide ER
              have HET := hide ET
              have HEX := hide EX
              have HEB := hide hH.1
              clear ER ET EX FX FR FT hH
              go_wp2_with fail
              go_meet
              exact ⟨g, ja, jb, jc, jd, m1, m2, m3, m4, jia, jib, jic, jid, _, jb0, jn, rfl, rfl, rfl, unhide HEX, unhide HER, unhide HET, ⟨_, _, _, rfl⟩, unhide HEB⟩
            refine AllReadyH.cons rfl (fun K hK => ?_) AllReadyH.nil
            go_simp
            have FX := heap_alloc_new u17 (.cells #[.slice none 0 0, .slice none 0 0, .slice none 0 0, .slice none 0 0, .bool false] 30)
            have BA := below_alloc u17 (.cells #[.slice none 0 0, .slice none 0 0, .slice none 0 0, .slice none 0 0, .bool false] 30)
            have hzz : u17.heap.size + 1 = (u17.alloc (.cells #[.slice none 0 0, .slice none 0 0, .slice none 0 0, .slice none 0 0, .bool false] 30)).heap.size := by simp
            obtain ⟨u20, hu⟩ : ∃ u20, u20 = u17.alloc (.cells #[.slice none 0 0, .slice none 0 0, .slice none 0 0, .slice none 0 0, .bool false] 30) := ⟨_, rfl⟩
            rw [← hu] at FX BA hzz ⊢
            have hgB0 : u17.heap.size ≤ u17.heap.size := Nat.le_refl _
            obtain ⟨g, hk9⟩ : ∃ g, u17.heap.size = g := ⟨_, rfl⟩
            have hg4 : w4.heap.size ≤ g := by rw [← hk9]; exact hH.1.size
            rw [hk9] at FX hzz
            simp only [hk9]
            replace FS := FS.below BA
            replace FG := FG.below BA
            replace FN := FN.below BA
            replace FB := FB.below BA
            have A9 := below_trans' hH.1 BA
            have hgS : g < u20.heap.size := by omega
            clear hu hk9 BA hzz hgB0
            refine hK.out _ _ (unhide HKB _ A9) (fun hH9 => ?_)
            clear hH
            have hH := hH9
            clear hH9 hK K
            try (conv => arg 8; simp only [Act.put, List.setIfInBounds_toArray, List.set_cons_zero, List.set_cons_succ])
            clear A9
            refine wpAnyH_ready (rs := [9]) (by kernel_rfl) (by simp) ?_
            refine AllReadyH.cons rfl (fun K hK => ?_) AllReadyH.nil
            have hgB := (Array.getElem?_eq_some_iff.1 FX).1
            go_simp
            refine (mergeM_any _ _ [(s, so)] [LN] so u20 FG FB (big_one (s := (s, so)) (unhide F1)) (by simp) (fun hR => by have := G.left_le hR; simp at this; omega)).mono ?_
            rintro e9 u21 h9
            obtain ⟨ja, jb, jc, jd, m1, m2, m3, m4, jia, jib, jic, jid, jv, jb0, jn, rfl, FR, FT, -, ⟨jt1, jt2, jt3, rfl⟩, BA⟩ := h9.ret
            replace FS := FS.below BA
            replace FG := FG.below BA
            replace FN := FN.below BA
            replace FB := FB.below BA
            replace FX := box_below FX BA
            have A9 := below_trans' hH.1 BA
            clear BA h9
            refine hK.out _ _ (unhide HKB _ A9) (fun hH9 => ?_)
            clear hH
            have hH := hH9
            clear hH9 hK K
            try (conv => arg 8; simp only [Act.put, List.setIfInBounds_toArray, List.set_cons_zero, List.set_cons_succ])
            clear A9
            refine takeH11 (i := 10) (d := some 29) (v := .tuple #[.agg #[.slice ja m1 jia, .slice jb m2 jib, .slice jc m3 jic, .slice jd m4 jid, .bool jb0], .slice jt1 jt2 jt3, .int .i64 jn]) rfl rfl (by kernel_rfl) (by kernel_rfl) (by kernel_rfl) (fun _ _ _ h => h) (Or.inl ⟨by rfl, fun w9 hSw => ?_⟩) hH ?_
            · (try dsimp only at hSw); go_simp
            conv => arg 8; simp only [Act.put, List.setIfInBounds_toArray, List.set_cons_zero, List.set_cons_succ]
            refine takeH11 (i := 11) (d := some 40) (v := .agg #[.slice ja m1 jia, .slice jb m2 jib, .slice jc m3 jic, .slice jd m4 jid, .bool jb0]) rfl rfl (by kernel_rfl) (by kernel_rfl) (by kernel_rfl) (fun _ _ _ h => h) (Or.inl ⟨by rfl, fun w9 hSw => ?_⟩) hH ?_
            · (try dsimp only at hSw); go_simp
            conv => arg 8; simp only [Act.put, List.setIfInBounds_toArray, List.set_cons_zero, List.set_cons_succ]
            refine takeH11 (i := 12) (d := some 41) (v := .slice jt1 jt2 jt3) rfl rfl (by kernel_rfl) (by kernel_rfl) (by kernel_rfl) (fun _ _ _ h => h) (Or.inl ⟨by rfl, fun w9 hSw => ?_⟩) hH ?_
            · (try dsimp only at hSw); go_simp
            conv => arg 8; simp only [Act.put, List.setIfInBounds_toArray, List.set_cons_zero, List.set_cons_succ]
            refine takeH11 (i := 13) (d := some 42) (v := .int .i64 jn) rfl rfl (by kernel_rfl) (by kernel_rfl) (by kernel_rfl) (fun _ _ _ h => h) (Or.inl ⟨by rfl, fun w9 hSw => ?_⟩) hH ?_
            · (try dsimp only at hSw); go_simp
            conv => arg 8; simp only [Act.put, List.setIfInBounds_toArray, List.set_cons_zero, List.set_cons_succ]
            refine wpAnyH_ready (rs := [15]) (by kernel_rfl) (by simp) ?_
            refine AllReadyH.cons rfl (fun K hK => ?_) AllReadyH.nil
            have s0 := box_cell FX (j := 0) rfl
            have s1 := box_cell FX (j := 1) rfl
            have s2 := box_cell FX (j := 2) rfl
            have s3 := box_cell FX (j := 3) rfl
            have s4 := box_cell FX (j := 4) rfl
            have f0 := bfro FX 0
            have f1 := bfro FX 1
            have f2 := bfro FX 2
            have f3 := bfro FX 3
            have f4 := bfro FX 4
            go_simp
            refine hK.out _ _ (unhide HKB _ (((((hH.1.setCell hg4 _).setCell hg4 _).setCell hg4 _).setCell hg4 _).setCell hg4 _)) (fun hH9 => ?_)
            clear hH
            have hH := hH9
            clear hH9 hK K
            try (conv => arg 8; simp only [Act.put, List.setIfInBounds_toArray, List.set_cons_zero, List.set_cons_succ])
            clear s0 s1 s2 s3 s4 f0 f1 f2 f3 f4
            refine takeH11 (i := 16) (d := some 9) (v := .slice jt1 jt2 jt3) rfl rfl (by kernel_rfl) (by kernel_rfl) (by kernel_rfl) (fun _ _ _ h => h) (Or.inl ⟨by rfl, fun w9 hSw => ?_⟩) hH ?_
            · (try dsimp only at hSw); go_simp
            conv => arg 8; simp only [Act.put, List.setIfInBounds_toArray, List.set_cons_zero, List.set_cons_succ]
            refine takeH11 (i := 17) (d := some 10) (v := .int .i64 jn) rfl rfl (by kernel_rfl) (by kernel_rfl) (by kernel_rfl) (fun _ _ _ h => h) (Or.inl ⟨by rfl, fun w9 hSw => ?_⟩) hH ?_
            · (try dsimp only at hSw); go_simp
            conv => arg 8; simp only [Act.put, List.setIfInBounds_toArray, List.set_cons_zero, List.set_cons_succ]
            refine wpAnyH_done (by kernel_rfl) ?_ _
            have ER : RetG (five u21 g (.slice ja m1 jia) (.slice jb m2 jib) (.slice jc m3 jic) (.slice jd m4 jid) (.bool jb0)) [(s, so)] [LN] so (.slice ja m1 jia) (.slice jb m2 jib) (.slice jc m3 jic) (.slice jd m4 jid) jb0 jn := FR.off (bxk_of (a := (none, 0, 0)) (b := (none, 0, 0)) (c := (none, 0, 0)) (d := (none, 0, 0)) FX) (off_five _ _ _ _ _ _ _)
            have ET : jn = 0 → Tl (five u21 g (.slice ja m1 jia) (.slice jb m2 jib) (.slice jc m3 jic) (.slice jd m4 jid) (.bool jb0)) (.slice jt1 jt2 jt3) (G.tabs (G.out so (G.left [(s, so)] [LN])).ids [(s, so)] [LN]) := fun h9 => ((FT h9).five hgB _ _ _ _ _).tl
            have EX : (five u21 g (.slice ja m1 jia) (.slice jb m2 jib) (.slice jc m3 jic) (.slice jd m4 jid) (.bool jb0)).heap[g]? = some (.cells #[.slice ja m1 jia, .slice jb m2 jib, .slice jc m3 jic, .slice jd m4 jid, .bool jb0] 30 (0, 0)) := by simpa [five] using bset (bset (bset (bset (bset FX 0 (.slice ja m1 jia)) 1 (.slice jb m2 jib)) 2 (.slice jc m3 jic)) 3 (.slice jd m4 jid)) 4 (.bool jb0)
            unfold five at ER ET EX
            have HER := hide ER
            have HET := hide ET
            have HEX := hide EX
            have HEB := hide hH.1
            clear ER ET EX FX FR FT hH
            go_wp2_with fail
            go_meet
            exact ⟨g, ja, jb, jc, jd, m1, m2, m3, m4, jia, jib, jic, jid, _, jb0, jn, rfl, rfl, rfl, unhide HEX, unhide HER, unhide HET, ⟨_, _, _, rfl⟩, unhide HEB⟩
          refine AllReadyH.cons rfl (fun K hK => ?_) AllReadyH.nil
          go_simp
          have FX := heap_alloc_new u16 (.cells #[.slice none 0 0, .slice none 0 0, .slice none 0 0, .slice none 0 0, .bool false] 30)
          have BA := below_alloc u16 (.cells #[.slice none 0 0, .slice none 0 0, .slice none 0 0, .slice none 0 0, .bool false] 30)
          have hzz : u16.heap.size + 1 = (u16.alloc (.cells #[.slice none 0 0, .slice none 0 0, .slice none 0 0, .slice none 0 0, .bool false] 30)).heap.size := by simp
          obtain ⟨u22, hu⟩ : ∃ u22, u22 = u16.alloc (.cells #[.slice none 0 0, .slice none 0 0, .slice none 0 0, .slice none 0 0, .bool false] 30) := ⟨_, rfl⟩
          rw [← hu] at FX BA hzz ⊢
          have hgB0 : u16.heap.size ≤ u16.heap.size := Nat.le_refl _
          obtain ⟨g, hk9⟩ : ∃ g, u16.heap.size = g := ⟨_, rfl⟩
          have hg4 : w4.heap.size ≤ g := by rw [← hk9]; exact hH.1.size
          rw [hk9] at FX hzz
          simp only [hk9]
          replace FS := FS.below BA
          replace FG := FG.below BA
          replace FN := FN.below BA
          have A9 := below_trans' hH.1 BA
          have hgS : g < u22.heap.size := by omega
          clear hu hk9 BA hzz hgB0
          refine hK.out _ _ (unhide HKB _ A9) (fun hH9 => ?_)
          clear hH
          have hH := hH9
          clear hH9 hK K
          try (conv => arg 8; simp only [Act.put, List.setIfInBounds_toArray, List.set_cons_zero, List.set_cons_succ])
          clear A9
          refine wpAnyH_ready (rs := [6]) (by kernel_rfl) (by simp) ?_
          refine AllReadyH.cons rfl (fun K hK => ?_) AllReadyH.nil
          go_simp
          have FB := Bll.one (e := 38) FN rfl
          have BA := below_alloc u22 (.cells #[.slice na9 LN.length nc9] 38)
          obtain ⟨u23, hu⟩ : ∃ u23, u23 = u22.alloc (.cells #[.slice na9 LN.length nc9] 38) := ⟨_, rfl⟩
          rw [← hu] at FB BA ⊢
          obtain ⟨k6, hk9⟩ : ∃ k6, u22.heap.size = k6 := ⟨_, rfl⟩
          rw [hk9] at FB
          simp only [hk9]
          replace FS := FS.below BA
          replace FG := FG.below BA
          replace FN := FN.below BA
          replace FX := box_below FX BA
          have A9 := below_trans' hH.1 BA
          clear hu hk9 BA
          refine hK.out _ _ (unhide HKB _ A9) (fun hH9 => ?_)
          clear hH
          have hH := hH9
          clear hH9 hK K
          try (conv => arg 8; simp only [Act.put, List.setIfInBounds_toArray, List.set_cons_zero, List.set_cons_succ])
          clear A9
          refine wpAnyH_ready (rs := [9]) (by kernel_rfl) (by simp) ?_
          refine AllReadyH.cons rfl (fun K hK => ?_) AllReadyH.nil
          have hgB := (Array.getElem?_eq_some_iff.1 FX).1
          go_simp
          refine (mergeM_any _ _ [(s, so)] [LN] so u23 FG FB (big_one (s := (s, so)) (unhide F1)) (by simp) (fun hR => by have := G.left_le hR; simp at this; omega)).mono ?_
          rintro e9 u24 h9
          obtain ⟨ja, jb, jc, jd, m1, m2, m3, m4, jia, jib, jic, jid, jv, jb0, jn, rfl, FR, FT, -, ⟨jt1, jt2, jt3, rfl⟩, BA⟩ := h9.ret
          replace FS := FS.below BA
          replace FG := FG.below BA
          replace FN := FN.below BA
          replace FB := FB.below BA
          replace FX := box_below FX BA
          have A9 := below_trans' hH.1 BA
          clear BA h9
          refine hK.out _ _ (unhide HKB _ A9) (fun hH9 => ?_)
          clear hH
          have hH := hH9
          clear hH9 hK K
          try (conv => arg 8; simp only [Act.put, List.setIfInBounds_toArray, List.set_cons_zero, List.set_cons_succ])
          clear A9
          refine takeH11 (i := 10) (d := some 29) (v := .tuple #[.agg #[.slice ja m1 jia, .slice jb m2 jib, .slice jc m3 jic, .slice jd m4 jid, .bool jb0], .slice jt1 jt2 jt3, .int .i64 jn]) rfl rfl (by kernel_rfl) (by kernel_rfl) (by kernel_rfl) (fun _ _ _ h => h) (Or.inl ⟨by rfl, fun w9 hSw => ?_⟩) hH ?_
          · (try dsimp only at hSw); go_simp
          conv => arg 8; simp only [Act.put, List.setIfInBounds_toArray, List.set_cons_zero, List.set_cons_succ]
          refine takeH11 (i := 11) (d := some 40) (v := .agg #[.slice ja m1 jia, .slice jb m2 jib, .slice jc m3 jic, .slice jd m4 jid, .bool jb0]) rfl rfl (by kernel_rfl) (by kernel_rfl) (by kernel_rfl) (fun _ _ _ h => h) (Or.inl ⟨by rfl, fun w9 hSw => ?_⟩) hH ?_
          · (try dsimp only at hSw); go_simp
          conv => arg 8; simp only [Act.put, List.setIfInBounds_toArray, List.set_cons_zero, List.set_cons_succ]
          refine takeH11 (i := 12) (d := some 41) (v := .slice jt1 jt2 jt3) rfl rfl (by kernel_rfl) (by kernel_rfl) (by kernel_rfl) (fun _ _ _ h => h) (Or.inl ⟨by rfl, fun w9 hSw => ?_⟩) hH ?_
          · (try dsimp only at hSw); go_simp
          conv => arg 8; simp only [Act.put, List.setIfInBounds_toArray, List.set_cons_zero, List.set_cons_succ]
          refine takeH11 (i := 13) (d := some 42) (v := .int .i64 jn) rfl rfl (by kernel_rfl) (by kernel_rfl) (by kernel_rfl) (fun _ _ _ h => h) (Or.inl ⟨by rfl, fun w9 hSw => ?_⟩) hH ?_
          · (try dsimp only at hSw); go_simp
          conv => arg 8; simp only [Act.put, List.setIfInBounds_toArray, List.set_cons_zero, List.set_cons_succ]
          refine wpAnyH_ready (rs := [15]) (by kernel_rfl) (by simp) ?_
          refine AllReadyH.cons rfl (fun K hK => ?_) AllReadyH.nil
          have s0 := box_cell FX (j := 0) rfl
          have s1 := box_cell FX (j := 1) rfl
          have s2 := box_cell FX (j := 2) rfl
          have s3 := box_cell FX (j := 3) rfl
          have s4 := box_cell FX (j := 4) rfl
          have f0 := bfro FX 0
          have f1 := bfro FX 1
          have f2 := bfro FX 2
          have f3 := bfro FX 3
          have f4 := bfro FX 4
          go_simp
          refine hK.out _ _ (unhide HKB _ (((((hH.1.setCell hg4 _).setCell hg4 _).setCell hg4 _).setCell hg4 _).setCell hg4 _)) (fun hH9 => ?_)
          clear hH
          have hH := hH9
          clear hH9 hK K
          try (conv => arg 8; simp only [Act.put, List.setIfInBounds_toArray, List.set_cons_zero, List.set_cons_succ])
          clear s0 s1 s2 s3 s4 f0 f1 f2 f3 f4
          refine takeH11 (i := 16) (d := some 9) (v := .slice jt1 jt2 jt3) rfl rfl (by kernel_rfl) (by kernel_rfl) (by kernel_rfl) (fun _ _ _ h => h) (Or.inl ⟨by rfl, fun w9 hSw => ?_⟩) hH ?_
          · (try dsimp only at hSw); go_simp
          conv => arg 8; simp only [Act.put, List.setIfInBounds_toArray, List.set_cons_zero, List.set_cons_succ]
          refine takeH11 (i := 17) (d := some 10) (v := .int .i64 jn) rfl rfl (by kernel_rfl) (by kernel_rfl) (by kernel_rfl) (fun _ _ _ h => h) (Or.inl ⟨by rfl, fun w9 hSw => ?_⟩) hH ?_
          · (try dsimp only at hSw); go_simp
          conv => arg 8; simp only [Act.put, List.setIfInBounds_toArray, List.set_cons_zero, List.set_cons_succ]
          refine wpAnyH_done (by kernel_rfl) ?_ _
          have ER : RetG (five u24 g (.slice ja m1 jia) (.slice jb m2 jib) (.slice jc m3 jic) (.slice jd m4 jid) (.bool jb0)) [(s, so)] [LN] so (.slice ja m1 jia) (.slice jb m2 jib) (.slice jc m3 jic) (.slice jd m4 jid) jb0 jn := FR.off (bxk_of (a := (none, 0, 0)) (b := (none, 0, 0)) (c := (none, 0, 0)) (d := (none, 0, 0)) FX) (off_five _ _ _ _ _ _ _)
          have ET : jn = 0 → Tl (five u24 g (.slice ja m1 jia) (.slice jb m2 jib) (.slice jc m3 jic) (.slice jd m4 jid) (.bool jb0)) (.slice jt1 jt2 jt3) (G.tabs (G.out so (G.left [(s, so)] [LN])).ids [(s, so)] [LN]) := fun h9 => ((FT h9).five hgB _ _ _ _ _).tl
          have EX : (five u24 g (.slice ja m1 jia) (.slice jb m2 jib) (.slice jc m3 jic) (.slice jd m4 jid) (.bool jb0)).heap[g]? = some (.cells #[.slice ja m1 jia, .slice jb m2 jib, .slice jc m3 jic, .slice jd m4 jid, .bool jb0] 30 (0, 0)) := by simpa [five] using bset (bset (bset (bset (bset FX 0 (.slice ja m1 jia)) 1 (.slice jb m2 jib)) 2 (.slice jc m3 jic)) 3 (.slice jd m4 jid)) 4 (.bool jb0)
          unfold five at ER ET EX
          have HER := hide ER
          have HET := hide ET
          have HEX := hide EX
          have HEB := hide hH.1
          clear ER ET EX FX FR FT hH
          go_wp2_with fail
          go_meet
          exact ⟨g, ja, jb, jc, jd, m1, m2, m3, m4, jia, jib, jic, jid, _, jb0, jn, rfl, rfl, rfl, unhide HEX, unhide HER, unhide HET, ⟨_, _, _, rfl⟩, unhide HEB⟩
        refine AllReadyH.cons rfl (fun K hK => ?_) ?_
        · skip
          go_simp
          have FB := Bll.one (e := 38) FN rfl
          have BA := below_alloc u15 (.cells #[.slice na9 LN.length nc9] 38)
          obtain ⟨u25, hu⟩ : ∃ u25, u25 = u15.alloc (.cells #[.slice na9 LN.length nc9] 38) := ⟨_, rfl⟩
          rw [← hu] at FB BA ⊢
          obtain ⟨k6, hk9⟩ : ∃ k6, u15.heap.size = k6 := ⟨_, rfl⟩
          rw [hk9] at FB
          simp only [hk9]
          replace FS := FS.below BA
          replace FN := FN.below BA
          have A9 := below_trans' hH.1 BA
          clear hu hk9 BA
          refine hK.out _ _ (unhide HKB _ A9) (fun hH9 => ?_)
          clear hH
          have hH := hH9
          clear hH9 hK K
          try (conv => arg 8; simp only [Act.put, List.setIfInBounds_toArray, List.set_cons_zero, List.set_cons_succ])
          clear A9
          refine wpAnyH_ready (rs := [1, 14]) (by kernel_rfl) (by simp) ?_
          refine AllReadyH.cons rfl (fun K hK => ?_) ?_
          · skip
            go_simp
            have FG := Gs.one (so := so) (e := 30) FS rfl
            have BA := below_alloc u25 (.cells #[.slice ia s.ids.length ic, .slice ka s.keys.length kc, .slice lna s.lens.length lnc, .slice ta s.ts.length tc, .bool so] 30)
            obtain ⟨u26, hu⟩ : ∃ u26, u26 = u25.alloc (.cells #[.slice ia s.ids.length ic, .slice ka s.keys.length kc, .slice lna s.lens.length lnc, .slice ta s.ts.length tc, .bool so] 30) := ⟨_, rfl⟩
            rw [← hu] at FG BA ⊢
            obtain ⟨k1, hk9⟩ : ∃ k1, u25.heap.size = k1 := ⟨_, rfl⟩
            rw [hk9] at FG
            simp only [hk9]
            replace FS := FS.below BA
            replace FN := FN.below BA
            replace FB := FB.below BA
            have A9 := below_trans' hH.1 BA
            clear hu hk9 BA
            refine hK.out _ _ (unhide HKB _ A9) (fun hH9 => ?_)
            clear hH
            have hH := hH9
            clear hH9 hK K
            try (conv => arg 8; simp only [Act.put, List.setIfInBounds_toArray, List.set_cons_zero, List.set_cons_succ])
            clear A9
            refine wpAnyH_ready (rs := [9, 14]) (by kernel_rfl) (by simp) ?_
            refine AllReadyH.cons rfl (fun K hK => ?_) ?_
            · skip
              go_simp
              refine (mergeM_any _ _ [(s, so)] [LN] so u26 FG FB (big_one (s := (s, so)) (unhide F1)) (by simp) (fun hR => by have := G.left_le hR; simp at this; omega)).mono ?_
              rintro e9 u27 h9
              obtain ⟨ja, jb, jc, jd, m1, m2, m3, m4, jia, jib, jic, jid, jv, jb0, jn, rfl, FR, FT, -, ⟨jt1, jt2, jt3, rfl⟩, BA⟩ := h9.ret
              replace FS := FS.below BA
              replace FG := FG.below BA
              replace FN := FN.below BA
              replace FB := FB.below BA
              have A9 := below_trans' hH.1 BA
              clear BA h9
              refine hK.out _ _ (unhide HKB _ A9) (fun hH9 => ?_)
              clear hH
              have hH := hH9
              clear hH9 hK K
              try (conv => arg 8; simp only [Act.put, List.setIfInBounds_toArray, List.set_cons_zero, List.set_cons_succ])
              clear A9
              refine takeH11 (i := 10) (d := some 29) (v := .tuple #[.agg #[.slice ja m1 jia, .slice jb m2 jib, .slice jc m3 jic, .slice jd m4 jid, .bool jb0], .slice jt1 jt2 jt3, .int .i64 jn]) rfl rfl (by kernel_rfl) (by kernel_rfl) (by kernel_rfl) (fun _ _ _ h => h) (Or.inl ⟨by rfl, fun w9 hSw => ?_⟩) hH ?_
              · (try dsimp only at hSw); go_simp
              conv => arg 8; simp only [Act.put, List.setIfInBounds_toArray, List.set_cons_zero, List.set_cons_succ]
              refine takeH11 (i := 11) (d := some 40) (v := .agg #[.slice ja m1 jia, .slice jb m2 jib, .slice jc m3 jic, .slice jd m4 jid, .bool jb0]) rfl rfl (by kernel_rfl) (by kernel_rfl) (by kernel_rfl) (fun _ _ _ h => h) (Or.inl ⟨by rfl, fun w9 hSw => ?_⟩) hH ?_
              · (try dsimp only at hSw); go_simp
              conv => arg 8; simp only [Act.put, List.setIfInBounds_toArray, List.set_cons_zero, List.set_cons_succ]
              refine takeH11 (i := 12) (d := some 41) (v := .slice jt1 jt2 jt3) rfl rfl (by kernel_rfl) (by kernel_rfl) (by kernel_rfl) (fun _ _ _ h => h) (Or.inl ⟨by rfl, fun w9 hSw => ?_⟩) hH ?_
              · (try dsimp only at hSw); go_simp
              conv => arg 8; simp only [Act.put, List.setIfInBounds_toArray, List.set_cons_zero, List.set_cons_succ]
              refine takeH11 (i := 13) (d := some 42) (v := .int .i64 jn) rfl rfl (by kernel_rfl) (by kernel_rfl) (by kernel_rfl) (fun _ _ _ h => h) (Or.inl ⟨by rfl, fun w9 hSw => ?_⟩) hH ?_
              · (try dsimp only at hSw); go_simp
              conv => arg 8; simp only [Act.put, List.setIfInBounds_toArray, List.set_cons_zero, List.set_cons_succ]
              refine wpAnyH_ready (rs := [14]) (by kernel_rfl) (by simp) ?_
              refine AllReadyH.cons rfl (fun K hK => ?_) AllReadyH.nil
              go_simp
              have FX := heap_alloc_new u27 (.cells #[.slice none 0 0, .slice none 0 0, .slice none 0 0, .slice none 0 0, .bool false] 30)
              have BA := below_alloc u27 (.cells #[.slice none 0 0, .slice none 0 0, .slice none 0 0, .slice none 0 0, .bool false] 30)
              have hzz : u27.heap.size + 1 = (u27.alloc (.cells #[.slice none 0 0, .slice none 0 0, .slice none 0 0, .slice none 0 0, .bool false] 30)).heap.size := by simp
              obtain ⟨u28, hu⟩ : ∃ u28, u28 = u27.alloc (.cells #[.slice none 0 0, .slice none 0 0, .slice none 0 0, .slice none 0 0, .bool false] 30) := ⟨_, rfl⟩
              rw [← hu] at FX BA hzz ⊢
              have hgB0 : u27.heap.size ≤ u27.heap.size := Nat.le_refl _
              obtain ⟨g, hk9⟩ : ∃ g, u27.heap.size = g := ⟨_, rfl⟩
              have hg4 : w4.heap.size ≤ g := by rw [← hk9]; exact hH.1.size
              rw [hk9] at FX hzz
              simp only [hk9]
              obtain ⟨uB, huB⟩ : ∃ uB, uB = u27 := ⟨_, rfl⟩
              have hgB : uB.heap.size ≤ g := by rw [huB, hk9]; exact Nat.le_refl _
              have hBA : Below uB.heap.size uB u28 := by rw [huB]; exact BA
              rw [← huB] at FR FT
              have A9 := below_trans' hH.1 BA
              clear hu hk9 BA hzz hgB0 huB
              refine hK.out _ _ (unhide HKB _ A9) (fun hH9 => ?_)
              clear hH
              have hH := hH9
              clear hH9 hK K
              try (conv => arg 8; simp only [Act.put, List.setIfInBounds_toArray, List.set_cons_zero, List.set_cons_succ])
              clear A9
              refine wpAnyH_ready (rs := [15]) (by kernel_rfl) (by simp) ?_
              refine AllReadyH.cons rfl (fun K hK => ?_) AllReadyH.nil
              have s0 := box_cell FX (j := 0) rfl
              have s1 := box_cell FX (j := 1) rfl
              have s2 := box_cell FX (j := 2) rfl
              have s3 := box_cell FX (j := 3) rfl
              have s4 := box_cell FX (j := 4) rfl
              have f0 := bfro FX 0
              have f1 := bfro FX 1
              have f2 := bfro FX 2
              have f3 := bfro FX 3
              have f4 := bfro FX 4
              go_simp
              refine hK.out _ _ (unhide HKB _ (((((hH.1.setCell hg4 _).setCell hg4 _).setCell hg4 _).setCell hg4 _).setCell hg4 _)) (fun hH9 => ?_)
              clear hH
              have hH := hH9
              clear hH9 hK K
              try (conv => arg 8; simp only [Act.put, List.setIfInBounds_toArray, List.set_cons_zero, List.set_cons_succ])
              clear s0 s1 s2 s3 s4 f0 f1 f2 f3 f4
              refine takeH11 (i := 16) (d := some 9) (v := .slice jt1 jt2 jt3) rfl rfl (by kernel_rfl) (by kernel_rfl) (by kernel_rfl) (fun _ _ _ h => h) (Or.inl ⟨by rfl, fun w9 hSw => ?_⟩) hH ?_
              · (try dsimp only at hSw); go_simp
              conv => arg 8; simp only [Act.put, List.setIfInBounds_toArray, List.set_cons_zero, List.set_cons_succ]
              refine takeH11 (i := 17) (d := some 10) (v := .int .i64 jn) rfl rfl (by kernel_rfl) (by kernel_rfl) (by kernel_rfl) (fun _ _ _ h => h) (Or.inl ⟨by rfl, fun w9 hSw => ?_⟩) hH ?_
              · (try dsimp only at hSw); go_simp
              conv => arg 8; simp only [Act.put, List.setIfInBounds_toArray, List.set_cons_zero, List.set_cons_succ]
              refine wpAnyH_done (by kernel_rfl) ?_ _
              have BFV : Below uB.heap.size uB (five u28 g (.slice ja m1 jia) (.slice jb m2 jib) (.slice jc m3 jic) (.slice jd m4 jid) (.bool jb0)) := ((((hBA.setCell hgB _).setCell hgB _).setCell hgB _).setCell hgB _).setCell hgB _
              have ER : RetG (five u28 g (.slice ja m1 jia) (.slice jb m2 jib) (.slice jc m3 jic) (.slice jd m4 jid) (.bool jb0)) [(s, so)] [LN] so (.slice ja m1 jia) (.slice jb m2 jib) (.slice jc m3 jic) (.slice jd m4 jid) jb0 jn := FR.below BFV
              have ET : jn = 0 → Tl (five u28 g (.slice ja m1 jia) (.slice jb m2 jib) (.slice jc m3 jic) (.slice jd m4 jid) (.bool jb0)) (.slice jt1 jt2 jt3) (G.tabs (G.out so (G.left [(s, so)] [LN])).ids [(s, so)] [LN]) := fun h9 => ((FT h9).tl).below BFV
              have EX : (five u28 g (.slice ja m1 jia) (.slice jb m2 jib) (.slice jc m3 jic) (.slice jd m4 jid) (.bool jb0)).heap[g]? = some (.cells #[.slice ja m1 jia, .slice jb m2 jib, .slice jc m3 jic, .slice jd m4 jid, .bool jb0] 30 (0, 0)) := by simpa [five] using bset (bset (bset (bset (bset FX 0 (.slice ja m1 jia)) 1 (.slice jb m2 jib)) 2 (.slice jc m3 jic)) 3 (.slice jd m4 jid)) 4 (.bool jb0)
              unfold five at ER ET EX
              have HER := hide ER
              have HET := hide ET
              have HEX := hide EX
              have HEB := hide hH.1
              clear ER ET EX FX FR FT hH
              go_wp2_with fail
              go_meet
              exact ⟨g, ja, jb, jc, jd, m1, m2, m3, m4, jia, jib, jic, jid, _, jb0, jn, rfl, rfl, rfl, unhide HEX, unhide HER, unhide HET, ⟨_, _, _, rfl⟩, unhide HEB⟩
            refine AllReadyH.cons rfl (fun K hK => ?_) AllReadyH.nil
            go_simp
            have FX := heap_alloc_new u26 (.cells #[.slice none 0 0, .slice none 0 0, .slice none 0 0, .slice none 0 0, .bool false] 30)
            have BA := below_alloc u26 (.cells #[.slice none 0 0, .slice none 0 0, .slice none 0 0, .slice none 0 0, .bool false] 30)
            have hzz : u26.heap.size + 1 = (u26.alloc (.cells #[.slice none 0 0, .slice none 0 0, .slice none 0 0, .slice none 0 0, .bool false] 30)).heap.size := by simp
            obtain ⟨u29, hu⟩ : ∃ u29, u29 = u26.alloc (.cells #[.slice none 0 0, .slice none 0 0, .slice none 0 0, .slice none 0 0, .bool false] 30) := ⟨_, rfl⟩
            rw [← hu] at FX BA hzz ⊢
            have hgB0 : u26.heap.size ≤ u26.heap.size := Nat.le_refl _
            obtain ⟨g, hk9⟩ : ∃ g, u26.heap.size = g := ⟨_, rfl⟩
            have hg4 : w4.heap.size ≤ g := by rw [← hk9]; exact hH.1.size
            rw [hk9] at FX hzz
            simp only [hk9]
            replace FS := FS.below BA
            replace FG := FG.below BA
            replace FN := FN.below BA
            replace FB := FB.below BA
            have A9 := below_trans' hH.1 BA
            have hgS : g < u29.heap.size := by omega
            clear hu hk9 BA hzz hgB0
            refine hK.out _ _ (unhide HKB _ A9) (fun hH9 => ?_)
            clear hH
            have hH := hH9
            clear hH9 hK K
            try (conv => arg 8; simp only [Act.put, List.setIfInBounds_toArray, List.set_cons_zero, List.set_cons_succ])
            clear A9
            refine wpAnyH_ready (rs := [9]) (by kernel_rfl) (by simp) ?_
            refine AllReadyH.cons rfl (fun K hK => ?_) AllReadyH.nil
            have hgB := (Array.getElem?_eq_some_iff.1 FX).1
            go_simp
            refine (mergeM_any _ _ [(s, so)] [LN] so u29 FG FB (big_one (s := (s, so)) (unhide F1)) (by simp) (fun hR => by have := G.left_le hR; simp at this; omega)).mono ?_
            rintro e9 u30 h9
            obtain ⟨ja, jb, jc, jd, m1, m2, m3, m4, jia, jib, jic, jid, jv, jb0, jn, rfl, FR, FT, -, ⟨jt1, jt2, jt3, rfl⟩, BA⟩ := h9.ret
            replace FS := FS.below BA
            replace FG := FG.below BA
            replace FN := FN.below BA
            replace FB := FB.below BA
            replace FX := box_below FX BA
            have A9 := below_trans' hH.1 BA
            clear BA h9
            refine hK.out _ _ (unhide HKB _ A9) (fun hH9 => ?_)
            clear hH
            have hH := hH9
            clear hH9 hK K
            try (conv => arg 8; simp only [Act.put, List.setIfInBounds_toArray, List.set_cons_zero, List.set_cons_succ])
            clear A9
            refine takeH11 (i := 10) (d := some 29) (v := .tuple #[.agg #[.slice ja m1 jia, .slice jb m2 jib, .slice jc m3 jic, .slice jd m4 jid, .bool jb0], .slice jt1 jt2 jt3, .int .i64 jn]) rfl rfl (by kernel_rfl) (by kernel_rfl) (by kernel_rfl) (fun _ _ _ h => h) (Or.inl ⟨by rfl, fun w9 hSw => ?_⟩) hH ?_
            · (try dsimp only at hSw); go_simp
            conv => arg 8; simp only [Act.put, List.setIfInBounds_toArray, List.set_cons_zero, List.set_cons_succ]
            refine takeH11 (i := 11) (d := some 40) (v := .agg #[.slice ja m1 jia, .slice jb m2 jib, .slice jc m3 jic, .slice jd m4 jid, .bool jb0]) rfl rfl (by kernel_rfl) (by kernel_rfl) (by kernel_rfl) (fun _ _ _ h => h) (Or.inl ⟨by rfl, fun w9 hSw => ?_⟩) hH ?_
            · (try dsimp only at hSw); go_simp
            conv => arg 8; simp only [Act.put, List.setIfInBounds_toArray, List.set_cons_zero, List.set_cons_succ]
            refine takeH11 (i := 12) (d := some 41) (v := .slice jt1 jt2 jt3) rfl rfl (by kernel_rfl) (by kernel_rfl) (by kernel_rfl) (fun _ _ _ h => h) (Or.inl ⟨by rfl, fun w9 hSw => ?_⟩) hH ?_
            · (try dsimp only at hSw); go_simp
            conv => arg 8; simp only [Act.put, List.setIfInBounds_toArray, List.set_cons_zero, List.set_cons_succ]
            refine takeH11 (i := 13) (d := some 42) (v := .int .i64 jn) rfl rfl (by kernel_rfl) (by kernel_rfl) (by kernel_rfl) (fun _ _ _ h => h) (Or.inl ⟨by rfl, fun w9 hSw => ?_⟩) hH ?_
            · (try dsimp only at hSw); go_simp
            conv => arg 8; simp only [Act.put, List.setIfInBounds_toArray, List.set_cons_zero, List.set_cons_succ]
            refine wpAnyH_ready (rs := [15]) (by kernel_rfl) (by simp) ?_
            refine AllReadyH.cons rfl (fun K hK => ?_) AllReadyH.nil
            have s0 := box_cell FX (j := 0) rfl
            have s1 := box_cell FX (j := 1) rfl
            have s2 := box_cell FX (j := 2) rfl
            have s3 := box_cell FX (j := 3) rfl
            have s4 := box_cell FX (j := 4) rfl
            have f0 := bfro FX 0
            have f1 := bfro FX 1
            have f2 := bfro FX 2
            have f3 := bfro FX 3
            have f4 := bfro FX 4
            go_simp
            refine hK.out _ _ (unhide HKB _ (((((hH.1.setCell hg4 _).setCell hg4 _).setCell hg4 _).setCell hg4 _).setCell hg4 _)) (fun hH9 => ?_)
            clear hH
            have hH := hH9
            clear hH9 hK K
            try (conv => arg 8; simp only [Act.put, List.setIfInBounds_toArray, List.set_cons_zero, List.set_cons_succ])
            clear s0 s1 s2 s3 s4 f0 f1 f2 f3 f4
            refine takeH11 (i := 16) (d := some 9) (v := .slice jt1 jt2 jt3) rfl rfl (by kernel_rfl) (by kernel_rfl) (by kernel_rfl) (fun _ _ _ h => h) (Or.inl ⟨by rfl, fun w9 hSw => ?_⟩) hH ?_
            · (try dsimp only at hSw); go_simp
            conv => arg 8; simp only [Act.put, List.setIfInBounds_toArray, List.set_cons_zero, List.set_cons_succ]
            refine takeH11 (i := 17) (d := some 10) (v := .int .i64 jn) rfl rfl (by kernel_rfl) (by kernel_rfl) (by kernel_rfl) (fun _ _ _ h => h) (Or.inl ⟨by rfl, fun w9 hSw => ?_⟩) hH ?_
            · (try dsimp only at hSw); go_simp
            conv => arg 8; simp only [Act.put, List.setIfInBounds_toArray, List.set_cons_zero, List.set_cons_succ]
            refine wpAnyH_done (by kernel_rfl) ?_ _
            have ER : RetG (five u30 g (.slice ja m1 jia) (.slice jb m2 jib) (.slice jc m3 jic) (.slice jd m4 jid) (.bool jb0)) [(s, so)] [LN] so (.slice ja m1 jia) (.slice jb m2 jib) (.slice jc m3 jic) (.slice jd m4 jid) jb0 jn := FR.off (bxk_of (a := (none, 0, 0)) (b := (none, 0, 0)) (c := (none, 0, 0)) (d := (none, 0, 0)) FX) (off_five _ _ _ _ _ _ _)
            have ET : jn = 0 → Tl (five u30 g (.slice ja m1 jia) (.slice jb m2 jib) (.slice jc m3 jic) (.slice jd m4 jid) (.bool jb0)) (.slice jt1 jt2 jt3) (G.tabs (G.out so (G.left [(s, so)] [LN])).ids [(s, so)] [LN]) := fun h9 => ((FT h9).five hgB _ _ _ _ _).tl
            have EX : (five u30 g (.slice ja m1 jia) (.slice jb m2 jib) (.slice jc m3 jic) (.slice jd m4 jid) (.bool jb0)).heap[g]? = some (.cells #[.slice ja m1 jia, .slice jb m2 jib, .slice jc m3 jic, .slice jd m4 jid, .bool jb0] 30 (0, 0)) := by simpa [five] using bset (bset (bset (bset (bset FX 0 (.slice ja m1 jia)) 1 (.slice jb m2 jib)) 2 (.slice jc m3 jic)) 3 (.slice jd m4 jid)) 4 (.bool jb0)
            unfold five at ER ET EX
            have HER := hide ER
            have HET := hide ET
            have HEX := hide EX
            have HEB := hide hH.1
            clear ER ET EX FX FR FT hH
            go_wp2_with fail
            go_meet
            exact ⟨g, ja, jb, jc, jd, m1, m2, m3, m4, jia, jib, jic, jid, _, jb0, jn, rfl, rfl, rfl, unhide HEX, unhide HER, unhide HET, ⟨_, _, _, rfl⟩, unhide HEB⟩
          refine AllReadyH.cons rfl (fun K hK => ?_) AllReadyH.nil
          go_simp
          have FX := heap_alloc_new u25 (.cells #[.slice none 0 0, .slice none 0 0, .slice none 0 0, .slice none 0 0, .bool false] 30)
          have BA := below_alloc u25 (.cells #[.slice none 0 0, .slice none 0 0, .slice none 0 0, .slice none 0 0, .bool false] 30)
          have hzz : u25.heap.size + 1 = (u25.alloc (.cells #[.slice none 0 0, .slice none 0 0, .slice none 0 0, .slice none 0 0, .bool false] 30)).heap.size := by simp
          obtain ⟨u31, hu⟩ : ∃ u31, u31 = u25.alloc (.cells #[.slice none 0 0, .slice none 0 0, .slice none 0 0, .slice none 0 0, .bool false] 30) := ⟨_, rfl⟩
          rw [← hu] at FX BA hzz ⊢
          have hgB0 : u25.heap.size ≤ u25.heap.size := Nat.le_refl _
          obtain ⟨g, hk9⟩ : ∃ g, u25.heap.size = g := ⟨_, rfl⟩
          have hg4 : w4.heap.size ≤ g := by rw [← hk9]; exact hH.1.size
          rw [hk9] at FX hzz
          simp only [hk9]
          replace FS := FS.below BA
          replace FN := FN.below BA
          replace FB := FB.below BA
          have A9 := below_trans' hH.1 BA
          have hgS : g < u31.heap.size := by omega
          clear hu hk9 BA hzz hgB0
          refine hK.out _ _ (unhide HKB _ A9) (fun hH9 => ?_)
          clear hH
          have hH := hH9
          clear hH9 hK K
          try (conv => arg 8; simp only [Act.put, List.setIfInBounds_toArray, List.set_cons_zero, List.set_cons_succ])
          clear A9
          refine wpAnyH_ready (rs := [1]) (by kernel_rfl) (by simp) ?_
          refine AllReadyH.cons rfl (fun K hK => ?_) AllReadyH.nil
          go_simp
          have FG := Gs.one (so := so) (e := 30) FS rfl
          have BA := below_alloc u31 (.cells #[.slice ia s.ids.length ic, .slice ka s.keys.length kc, .slice lna s.lens.length lnc, .slice ta s.ts.length tc, .bool so] 30)
          obtain ⟨u32, hu⟩ : ∃ u32, u32 = u31.alloc (.cells #[.slice ia s.ids.length ic, .slice ka s.keys.length kc, .slice lna s.lens.length lnc, .slice ta s.ts.length tc, .bool so] 30) := ⟨_, rfl⟩
          rw [← hu] at FG BA ⊢
          obtain ⟨k1, hk9⟩ : ∃ k1, u31.heap.size = k1 := ⟨_, rfl⟩
          rw [hk9] at FG
          simp only [hk9]
          replace FS := FS.below BA
          replace FN := FN.below BA
          replace FB := FB.below BA
          replace FX := box_below FX BA
          have A9 := below_trans' hH.1 BA
          clear hu hk9 BA
          refine hK.out _ _ (unhide HKB _ A9) (fun hH9 => ?_)
          clear hH
          have hH := hH9
          clear hH9 hK K
          try (conv => arg 8; simp only [Act.put, List.setIfInBounds_toArray, List.set_cons_zero, List.set_cons_succ])
          clear A9
          refine wpAnyH_ready (rs := [9]) (by kernel_rfl) (by simp) ?_
          refine AllReadyH.cons rfl (fun K hK => ?_) AllReadyH.nil
          have hgB := (Array.getElem?_eq_some_iff.1 FX).1
          go_simp
          refine (mergeM_any _ _ [(s, so)] [LN] so u32 FG FB (big_one (s := (s, so)) (unhide F1)) (by simp) (fun hR => by have := G.left_le hR; simp at this; omega)).mono ?_
          rintro e9 u33 h9
          obtain ⟨ja, jb, jc, jd, m1, m2, m3, m4, jia, jib, jic, jid, jv, jb0, jn, rfl, FR, FT, -, ⟨jt1, jt2, jt3, rfl⟩, BA⟩ := h9.ret
          replace FS := FS.below BA
          replace FG := FG.below BA
          replace FN := FN.below BA
          replace FB := FB.below BA
          replace FX := box_below FX BA
          have A9 := below_trans' hH.1 BA
          clear BA h9
          refine hK.out _ _ (unhide HKB _ A9) (fun hH9 => ?_)
          clear hH
          have hH := hH9
          clear hH9 hK K
          try (conv => arg 8; simp only [Act.put, List.setIfInBounds_toArray, List.set_cons_zero, List.set_cons_succ])
          clear A9
          refine takeH11 (i := 10) (d := some 29) (v := .tuple #[.agg #[.slice ja m1 jia, .slice jb m2 jib, .slice jc m3 jic, .slice jd m4 jid, .bool jb0], .slice jt1 jt2 jt3, .int .i64 jn]) rfl rfl (by kernel_rfl) (by kernel_rfl) (by kernel_rfl) (fun _ _ _ h => h) (Or.inl ⟨by rfl, fun w9 hSw => ?_⟩) hH ?_
          · (try dsimp only at hSw); go_simp
          conv => arg 8; simp only [Act.put, List.setIfInBounds_toArray, List.set_cons_zero, List.set_cons_succ]
          refine takeH11 (i := 11) (d := some 40) (v := .agg #[.slice ja m1 jia, .slice jb m2 jib, .slice jc m3 jic, .slice jd m4 jid, .bool jb0]) rfl rfl (by kernel_rfl) (by kernel_rfl) (by kernel_rfl) (fun _ _ _ h => h) (Or.inl ⟨by rfl, fun w9 hSw => ?_⟩) hH ?_
          · (try dsimp only at hSw); go_simp
          conv => arg 8; simp only [Act.put, List.setIfInBounds_toArray, List.set_cons_zero, List.set_cons_succ]
          refine takeH11 (i := 12) (d := some 41) (v := .slice jt1 jt2 jt3) rfl rfl (by kernel_rfl) (by kernel_rfl) (by kernel_rfl) (fun _ _ _ h => h) (Or.inl ⟨by rfl, fun w9 hSw => ?_⟩) hH ?_
          · (try dsimp only at hSw); go_simp
          conv => arg 8; simp only [Act.put, List.setIfInBounds_toArray, List.set_cons_zero, List.set_cons_succ]
          refine takeH11 (i := 13) (d := some 42) (v := .int .i64 jn) rfl rfl (by kernel_rfl) (by kernel_rfl) (by kernel_rfl) (fun _ _ _ h => h) (Or.inl ⟨by rfl, fun w9 hSw => ?_⟩) hH ?_
          · (try dsimp only at hSw); go_simp
          conv => arg 8; simp only [Act.put, List.setIfInBounds_toArray, List.set_cons_zero, List.set_cons_succ]
          refine wpAnyH_ready (rs := [15]) (by kernel_rfl) (by simp) ?_
          refine AllReadyH.cons rfl (fun K hK => ?_) AllReadyH.nil
          have s0 := box_cell FX (j := 0) rfl
          have s1 := box_cell FX (j := 1) rfl
          have s2 := box_cell FX (j := 2) rfl
          have s3 := box_cell FX (j := 3) rfl
          have s4 := box_cell FX (j := 4) rfl
          have f0 := bfro FX 0
          have f1 := bfro FX 1
          have f2 := bfro FX 2
          have f3 := bfro FX 3
          have f4 := bfro FX 4
          go_simp
          refine hK.out _ _ (unhide HKB _ (((((hH.1.setCell hg4 _).setCell hg4 _).setCell hg4 _).setCell hg4 _).setCell hg4 _)) (fun hH9 => ?_)
          clear hH
          have hH := hH9
          clear hH9 hK K
          try (conv => arg 8; simp only [Act.put, List.setIfInBounds_toArray, List.set_cons_zero, List.set_cons_succ])
          clear s0 s1 s2 s3 s4 f0 f1 f2 f3 f4
          refine takeH11 (i := 16) (d := some 9) (v := .slice jt1 jt2 jt3) rfl rfl (by kernel_rfl) (by kernel_rfl) (by kernel_rfl) (fun _ _ _ h => h) (Or.inl ⟨by rfl, fun w9 hSw => ?_⟩) hH ?_
          · (try dsimp only at hSw); go_simp
          conv => arg 8; simp only [Act.put, List.setIfInBounds_toArray, List.set_cons_zero, List.set_cons_succ]
          refine takeH11 (i := 17) (d := some 10) (v := .int .i64 jn) rfl rfl (by kernel_rfl) (by kernel_rfl) (by kernel_rfl) (fun _ _ _ h => h) (Or.inl ⟨by rfl, fun w9 hSw => ?_⟩) hH ?_
          · (try dsimp only at hSw); go_simp
          conv => arg 8; simp only [Act.put, List.setIfInBounds_toArray, List.set_cons_zero, List.set_cons_succ]
          refine wpAnyH_done (by kernel_rfl) ?_ _
          have ER : RetG (five u33 g (.slice ja m1 jia) (.slice jb m2 jib) (.slice jc m3 jic) (.slice jd m4 jid) (.bool jb0)) [(s, so)] [LN] so (.slice ja m1 jia) (.slice jb m2 jib) (.slice jc m3 jic) (.slice jd m4 jid) jb0 jn := FR.off (bxk_of (a := (none, 0, 0)) (b := (none, 0, 0)) (c := (none, 0, 0)) (d := (none, 0, 0)) FX) (off_five _ _ _ _ _ _ _)
          have ET : jn = 0 → Tl (five u33 g (.slice ja m1 jia) (.slice jb m2 jib) (.slice jc m3 jic) (.slice jd m4 jid) (.bool jb0)) (.slice jt1 jt2 jt3) (G.tabs (G.out so (G.left [(s, so)] [LN])).ids [(s, so)] [LN]) := fun h9 => ((FT h9).five hgB _ _ _ _ _).tl
          have EX : (five u33 g (.slice ja m1 jia) (.slice jb m2 jib) (.slice jc m3 jic) (.slice jd m4 jid) (.bool jb0)).heap[g]? = some (.cells #[.slice ja m1 jia, .slice jb m2 jib, .slice jc m3 jic, .slice jd m4 jid, .bool jb0] 30 (0, 0)) := by simpa [five] using bset (bset (bset (bset (bset FX 0 (.slice ja m1 jia)) 1 (.slice jb m2 jib)) 2 (.slice jc m3 jic)) 3 (.slice jd m4 jid)) 4 (.bool jb0)
          unfold five at ER ET EX
          have HER := hide ER
          have HET := hide ET
          have HEX := hide EX
          have HEB := hide hH.1
          clear ER ET EX FX FR FT hH
          go_wp2_with fail
          go_meet
          exact ⟨g, ja, jb, jc, jd, m1, m2, m3, m4, jia, jib, jic, jid, _, jb0, jn, rfl, rfl, rfl, unhide HEX, unhide HER, unhide HET, ⟨_, _, _, rfl⟩, unhide HEB⟩
        refine AllReadyH.cons rfl (fun K hK => ?_) AllReadyH.nil
        go_simp
        have FX := heap_alloc_new u15 (.cells #[.slice none 0 0, .slice none 0 0, .slice none 0 0, .slice none 0 0, .bool false] 30)
        have BA := below_alloc u15 (.cells #[.slice none 0 0, .slice none 0 0, .slice none 0 0, .slice none 0 0, .bool false] 30)
        have hzz : u15.heap.size + 1 = (u15.alloc (.cells #[.slice none 0 0, .slice none 0 0, .slice none 0 0, .slice none 0 0, .bool false] 30)).heap.size := by simp
        obtain ⟨u34, hu⟩ : ∃ u34, u34 = u15.alloc (.cells #[.slice none 0 0, .slice none 0 0, .slice none 0 0, .slice none 0 0, .bool false] 30) := ⟨_, rfl⟩
        rw [← hu] at FX BA hzz ⊢
        have hgB0 : u15.heap.size ≤ u15.heap.size := Nat.le_refl _
        obtain ⟨g, hk9⟩ : ∃ g, u15.heap.size = g := ⟨_, rfl⟩
        have hg4 : w4.heap.size ≤ g := by rw [← hk9]; exact hH.1.size
        rw [hk9] at FX hzz
        simp only [hk9]
        replace FS := FS.below BA
        replace FN := FN.below BA
        have A9 := below_trans' hH.1 BA
        have hgS : g < u34.heap.size := by omega
        clear hu hk9 BA hzz hgB0
        refine hK.out _ _ (unhide HKB _ A9) (fun hH9 => ?_)
        clear hH
        have hH := hH9
        clear hH9 hK K
        try (conv => arg 8; simp only [Act.put, List.setIfInBounds_toArray, List.set_cons_zero, List.set_cons_succ])
        clear A9
        refine wpAnyH_ready (rs := [1, 6]) (by kernel_rfl) (by simp) ?_
        refine AllReadyH.cons rfl (fun K hK => ?_) ?_
        · skip
          go_simp
          have FG := Gs.one (so := so) (e := 30) FS rfl
          have BA := below_alloc u34 (.cells #[.slice ia s.ids.length ic, .slice ka s.keys.length kc, .slice lna s.lens.length lnc, .slice ta s.ts.length tc, .bool so] 30)
          obtain ⟨u35, hu⟩ : ∃ u35, u35 = u34.alloc (.cells #[.slice ia s.ids.length ic, .slice ka s.keys.length kc, .slice lna s.lens.length lnc, .slice ta s.ts.length tc, .bool so] 30) := ⟨_, rfl⟩
          rw [← hu] at FG BA ⊢
          obtain ⟨k1, hk9⟩ : ∃ k1, u34.heap.size = k1 := ⟨_, rfl⟩
          rw [hk9] at FG
          simp only [hk9]
          replace FS := FS.below BA
          replace FN := FN.below BA
          replace FX := box_below FX BA
          have A9 := below_trans' hH.1 BA
          clear hu hk9 BA
          refine hK.out _ _ (unhide HKB _ A9) (fun hH9 => ?_)
          clear hH
          have hH := hH9
          clear hH9 hK K
          try (conv => arg 8; simp only [Act.put, List.setIfInBounds_toArray, List.set_cons_zero, List.set_cons_succ])
          clear A9
          refine wpAnyH_ready (rs := [6]) (by kernel_rfl) (by simp) ?_
          refine AllReadyH.cons rfl (fun K hK => ?_) AllReadyH.nil
          go_simp
          have FB := Bll.one (e := 38) FN rfl
          have BA := below_alloc u35 (.cells #[.slice na9 LN.length nc9] 38)
          obtain ⟨u36, hu⟩ : ∃ u36, u36 = u35.alloc (.cells #[.slice na9 LN.length nc9] 38) := ⟨_, rfl⟩
          rw [← hu] at FB BA ⊢
          obtain ⟨k6, hk9⟩ : ∃ k6, u35.heap.size = k6 := ⟨_, rfl⟩
          rw [hk9] at FB
          simp only [hk9]
          replace FS := FS.below BA
          replace FG := FG.below BA
          replace FN := FN.below BA
          replace FX := box_below FX BA
          have A9 := below_trans' hH.1 BA
          clear hu hk9 BA
          refine hK.out _ _ (unhide HKB _ A9) (fun hH9 => ?_)
          clear hH
          have hH := hH9
          clear hH9 hK K
          try (conv => arg 8; simp only [Act.put, List.setIfInBounds_toArray, List.set_cons_zero, List.set_cons_succ])
          clear A9
          refine wpAnyH_ready (rs := [9]) (by kernel_rfl) (by simp) ?_
          refine AllReadyH.cons rfl (fun K hK => ?_) AllReadyH.nil
          have hgB := (Array.getElem?_eq_some_iff.1 FX).1
          go_simp
          refine (mergeM_any _ _ [(s, so)] [LN] so u36 FG FB (big_one (s := (s, so)) (unhide F1)) (by simp) (fun hR => by have := G.left_le hR; simp at this; omega)).mono ?_
          rintro e9 u37 h9
          obtain ⟨ja, jb, jc, jd, m1, m2, m3, m4, jia, jib, jic, jid, jv, jb0, jn, rfl, FR, FT, -, ⟨jt1, jt2, jt3, rfl⟩, BA⟩ := h9.ret
          replace FS := FS.below BA
          replace FG := FG.below BA
          replace FN := FN.below BA
          replace FB := FB.below BA
          replace FX := box_below FX BA
          have A9 := below_trans' hH.1 BA
          clear BA h9
          refine hK.out _ _ (unhide HKB _ A9) (fun hH9 => ?_)
          clear hH
          have hH := hH9
          clear hH9 hK K
          try (conv => arg 8; simp only [Act.put, List.setIfInBounds_toArray, List.set_cons_zero, List.set_cons_succ])
          clear A9
          refine takeH11 (i := 10) (d := some 29) (v := .tuple #[.agg #[.slice ja m1 jia, .slice jb m2 jib, .slice jc m3 jic, .slice jd m4 jid, .bool jb0], .slice jt1 jt2 jt3, .int .i64 jn]) rfl rfl (by kernel_rfl) (by kernel_rfl) (by kernel_rfl) (fun _ _ _ h => h) (Or.inl ⟨by rfl, fun w9 hSw => ?_⟩) hH ?_
          · (try dsimp only at hSw); go_simp
          conv => arg 8; simp only [Act.put, List.setIfInBounds_toArray, List.set_cons_zero, List.set_cons_succ]
          refine takeH11 (i := 11) (d := some 40) (v := .agg #[.slice ja m1 jia, .slice jb m2 jib, .slice jc m3 jic, .slice jd m4 jid, .bool jb0]) rfl rfl (by kernel_rfl) (by kernel_rfl) (by kernel_rfl) (fun _ _ _ h => h) (Or.inl ⟨by rfl, fun w9 hSw => ?_⟩) hH ?_
          · (try dsimp only at hSw); go_simp
          conv => arg 8; simp only [Act.put, List.setIfInBounds_toArray, List.set_cons_zero, List.set_cons_succ]
          refine takeH11 (i := 12) (d := some 41) (v := .slice jt1 jt2 jt3) rfl rfl (by kernel_rfl) (by kernel_rfl) (by kernel_rfl) (fun _ _ _ h => h) (Or.inl ⟨by rfl, fun w9 hSw => ?_⟩) hH ?_
          · (try dsimp only at hSw); go_simp
          conv => arg 8; simp only [Act.put, List.setIfInBounds_toArray, List.set_cons_zero, List.set_cons_succ]
          refine takeH11 (i := 13) (d := some 42) (v := .int .i64 jn) rfl rfl (by kernel_rfl) (by kernel_rfl) (by kernel_rfl) (fun _ _ _ h => h) (Or.inl ⟨by rfl, fun w9 hSw => ?_⟩) hH ?_
          · (try dsimp only at hSw); go_simp
          conv => arg 8; simp only [Act.put, List.setIfInBounds_toArray, List.set_cons_zero, List.set_cons_succ]
          refine wpAnyH_ready (rs := [15]) (by kernel_rfl) (by simp) ?_
          refine AllReadyH.cons rfl (fun K hK => ?_) AllReadyH.nil
          have s0 := box_cell FX (j := 0) rfl
          have s1 := box_cell FX (j := 1) rfl
          have s2 := box_cell FX (j := 2) rfl
          have s3 := box_cell FX (j := 3) rfl
          have s4 := box_cell FX (j := 4) rfl
          have f0 := bfro FX 0
          have f1 := bfro FX 1
          have f2 := bfro FX 2
          have f3 := bfro FX 3
          have f4 := bfro FX 4
          go_simp
          refine hK.out _ _ (unhide HKB _ (((((hH.1.setCell hg4 _).setCell hg4 _).setCell hg4 _).setCell hg4 _).setCell hg4 _)) (fun hH9 => ?_)
          clear hH
          have hH := hH9
          clear hH9 hK K
          try (conv => arg 8; simp only [Act.put, List.setIfInBounds_toArray, List.set_cons_zero, List.set_cons_succ])
          clear s0 s1 s2 s3 s4 f0 f1 f2 f3 f4
          refine takeH11 (i := 16) (d := some 9) (v := .slice jt1 jt2 jt3) rfl rfl (by kernel_rfl) (by kernel_rfl) (by kernel_rfl) (fun _ _ _ h => h) (Or.inl ⟨by rfl, fun w9 hSw => ?_⟩) hH ?_
          · (try dsimp only at hSw); go_simp
          conv => arg 8; simp only [Act.put, List.setIfInBounds_toArray, List.set_cons_zero, List.set_cons_succ]
          refine takeH11 (i := 17) (d := some 10) (v := .int .i64 jn) rfl rfl (by kernel_rfl) (by kernel_rfl) (by kernel_rfl) (fun _ _ _ h => h) (Or.inl ⟨by rfl, fun w9 hSw => ?_⟩) hH ?_
          · (try dsimp only at hSw); go_simp
          conv => arg 8; simp only [Act.put, List.setIfInBounds_toArray, List.set_cons_zero, List.set_cons_succ]
          refine wpAnyH_done (by kernel_rfl) ?_ _
          have ER : RetG (five u37 g (.slice ja m1 jia) (.slice jb m2 jib) (.slice jc m3 jic) (.slice jd m4 jid) (.bool jb0)) [(s, so)] [LN] so (.slice ja m1 jia) (.slice jb m2 jib) (.slice jc m3 jic) (.slice jd m4 jid) jb0 jn := FR.off (bxk_of (a := (none, 0, 0)) (b := (none, 0, 0)) (c := (none, 0, 0)) (d := (none, 0, 0)) FX) (off_five _ _ _ _ _ _ _)
          have ET : jn = 0 → Tl (five u37 g (.slice ja m1 jia) (.slice jb m2 jib) (.slice jc m3 jic) (.slice jd m4 jid) (.bool jb0)) (.slice jt1 jt2 jt3) (G.tabs (G.out so (G.left [(s, so)] [LN])).ids [(s, so)] [LN]) := fun h9 => ((FT h9).five hgB _ _ _ _ _).tl
          have EX : (five u37 g (.slice ja m1 jia) (.slice jb m2 jib) (.slice jc m3 jic) (.slice jd m4 jid) (.bool jb0)).heap[g]? = some (.cells #[.slice ja m1 jia, .slice jb m2 jib, .slice jc m3 jic, .slice jd m4 jid, .bool jb0] 30 (0, 0)) := by simpa [five] using bset (bset (bset (bset (bset FX 0 (.slice ja m1 jia)) 1 (.slice jb m2 jib)) 2 (.slice jc m3 jic)) 3 (.slice jd m4 jid)) 4 (.bool jb0)
          unfold five at ER ET EX
          have HER := hide ER
          have HET := hide ET
          have HEX := hide EX
          have HEB := hide hH.1
          clear ER ET EX FX FR FT hH
          go_wp2_with fail
          go_meet
          exact ⟨g, ja, jb, jc, jd, m1, m2, m3, m4, jia, jib, jic, jid, _, jb0, jn, rfl, rfl, rfl, unhide HEX, unhide HER, unhide HET, ⟨_, _, _, rfl⟩, unhide HEB⟩
        refine AllReadyH.cons rfl (fun K hK => ?_) AllReadyH.nil
        go_simp
        have FB := Bll.one (e := 38) FN rfl
        have BA := below_alloc u34 (.cells #[.slice na9 LN.length nc9] 38)
        obtain ⟨u38, hu⟩ : ∃ u38, u38 = u34.alloc (.cells #[.slice na9 LN.length nc9] 38) := ⟨_, rfl⟩
        rw [← hu] at FB BA ⊢
        obtain ⟨k6, hk9⟩ : ∃ k6, u34.heap.size = k6 := ⟨_, rfl⟩
        rw [hk9] at FB
        simp only [hk9]
        replace FS := FS.below BA
        replace FN := FN.below BA
        replace FX := box_below FX BA
        have A9 := below_trans' hH.1 BA
        clear hu hk9 BA
        refine hK.out _ _ (unhide HKB _ A9) (fun hH9 => ?_)
        clear hH
        have hH := hH9
        clear hH9 hK K
        try (conv => arg 8; simp only [Act.put, List.setIfInBounds_toArray, List.set_cons_zero, List.set_cons_succ])
        clear A9
        refine wpAnyH_ready (rs := [1]) (by kernel_rfl) (by simp) ?_
        refine AllReadyH.cons rfl (fun K hK => ?_) AllReadyH.nil
        go_simp
        have FG := Gs.one (so := so) (e := 30) FS rfl
        have BA := below_alloc u38 (.cells #[.slice ia s.ids.length ic, .slice ka s.keys.length kc, .slice lna s.lens.length lnc, .slice ta s.ts.length tc, .bool so] 30)
        obtain ⟨u39, hu⟩ : ∃ u39, u39 = u38.alloc (.cells #[.slice ia s.ids.length ic, .slice ka s.keys.length kc, .slice lna s.lens.length lnc, .slice ta s.ts.length tc, .bool so] 30) := ⟨_, rfl⟩
        rw [← hu] at FG BA ⊢
        obtain ⟨k1, hk9⟩ : ∃ k1, u38.heap.size = k1 := ⟨_, rfl⟩
        rw [hk9] at FG
        simp only [hk9]
        replace FS := FS.below BA
        replace FN := FN.below BA
        replace FB := FB.below BA
        replace FX := box_below FX BA
        have A9 := below_trans' hH.1 BA
        clear hu hk9 BA
        refine hK.out _ _ (unhide HKB _ A9) (fun hH9 => ?_)
        clear hH
        have hH := hH9
        clear hH9 hK K
        try (conv => arg 8; simp only [Act.put, List.setIfInBounds_toArray, List.set_cons_zero, List.set_cons_succ])
        clear A9
        refine wpAnyH_ready (rs := [9]) (by kernel_rfl) (by simp) ?_
        refine AllReadyH.cons rfl (fun K hK => ?_) AllReadyH.nil
        have hgB := (Array.getElem?_eq_some_iff.1 FX).1
        go_simp
        refine (mergeM_any _ _ [(s, so)] [LN] so u39 FG FB (big_one (s := (s, so)) (unhide F1)) (by simp) (fun hR => by have := G.left_le hR; simp at this; omega)).mono ?_
        rintro e9 u40 h9
        obtain ⟨ja, jb, jc, jd, m1, m2, m3, m4, jia, jib, jic, jid, jv, jb0, jn, rfl, FR, FT, -, ⟨jt1, jt2, jt3, rfl⟩, BA⟩ := h9.ret
        replace FS := FS.below BA
        replace FG := FG.below BA
        replace FN := FN.below BA
        replace FB := FB.below BA
        replace FX := box_below FX BA
        have A9 := below_trans' hH.1 BA
        clear BA h9
        refine hK.out _ _ (unhide HKB _ A9) (fun hH9 => ?_)
        clear hH
        have hH := hH9
        clear hH9 hK K
        try (conv => arg 8; simp only [Act.put, List.setIfInBounds_toArray, List.set_cons_zero, List.set_cons_succ])
        clear A9
        refine takeH11 (i := 10) (d := some 29) (v := .tuple #[.agg #[.slice ja m1 jia, .slice jb m2 jib, .slice jc m3 jic, .slice jd m4 jid, .bool jb0], .slice jt1 jt2 jt3, .int .i64 jn]) rfl rfl (by kernel_rfl) (by kernel_rfl) (by kernel_rfl) (fun _ _ _ h => h) (Or.inl ⟨by rfl, fun w9 hSw => ?_⟩) hH ?_
        · (try dsimp only at hSw); go_simp
        conv => arg 8; simp only [Act.put, List.setIfInBounds_toArray, List.set_cons_zero, List.set_cons_succ]
        refine takeH11 (i := 11) (d := some 40) (v := .agg #[.slice ja m1 jia, .slice jb m2 jib, .slice jc m3 jic, .slice jd m4 jid, .bool jb0]) rfl rfl (by kernel_rfl) (by kernel_rfl) (by kernel_rfl) (fun _ _ _ h => h) (Or.inl ⟨by rfl, fun w9 hSw => ?_⟩) hH ?_
        · (try dsimp only at hSw); go_simp
        conv => arg 8; simp only [Act.put, List.setIfInBounds_toArray, List.set_cons_zero, List.set_cons_succ]
        refine takeH11 (i := 12) (d := some 41) (v := .slice jt1 jt2 jt3) rfl rfl (by kernel_rfl) (by kernel_rfl) (by kernel_rfl) (fun _ _ _ h => h) (Or.inl ⟨by rfl, fun w9 hSw => ?_⟩) hH ?_
        · (try dsimp only at hSw); go_simp
        conv => arg 8; simp only [Act.put, List.setIfInBounds_toArray, List.set_cons_zero, List.set_cons_succ]
        refine takeH11 (i := 13) (d := some 42) (v := .int .i64 jn) rfl rfl (by kernel_rfl) (by kernel_rfl) (by kernel_rfl) (fun _ _ _ h => h) (Or.inl ⟨by rfl, fun w9 hSw => ?_⟩) hH ?_
        · (try dsimp only at hSw); go_simp
        conv => arg 8; simp only [Act.put, List.setIfInBounds_toArray, List.set_cons_zero, List.set_cons_succ]
        refine wpAnyH_ready (rs := [15]) (by kernel_rfl) (by simp) ?_
        refine AllReadyH.cons rfl (fun K hK => ?_) AllReadyH.nil
        have s0 := box_cell FX (j := 0) rfl
        have s1 := box_cell FX (j := 1) rfl
        have s2 := box_cell FX (j := 2) rfl
        have s3 := box_cell FX (j := 3) rfl
        have s4 := box_cell FX (j := 4) rfl
        have f0 := bfro FX 0
        have f1 := bfro FX 1
        have f2 := bfro FX 2
        have f3 := bfro FX 3
        have f4 := bfro FX 4
        go_simp
        refine hK.out _ _ (unhide HKB _ (((((hH.1.setCell hg4 _).setCell hg4 _).setCell hg4 _).setCell hg4 _).setCell hg4 _)) (fun hH9 => ?_)
        clear hH
        have hH := hH9
        clear hH9 hK K
        try (conv => arg 8; simp only [Act.put, List.setIfInBounds_toArray, List.set_cons_zero, List.set_cons_succ])
        clear s0 s1 s2 s3 s4 f0 f1 f2 f3 f4
        refine takeH11 (i := 16) (d := some 9) (v := .slice jt1 jt2 jt3) rfl rfl (by kernel_rfl) (by kernel_rfl) (by kernel_rfl) (fun _ _ _ h => h) (Or.inl ⟨by rfl, fun w9 hSw => ?_⟩) hH ?_
        · (try dsimp only at hSw); go_simp
        conv => arg 8; simp only [Act.put, List.setIfInBounds_toArray, List.set_cons_zero, List.set_cons_succ]
        refine takeH11 (i := 17) (d := some 10) (v := .int .i64 jn) rfl rfl (by kernel_rfl) (by kernel_rfl) (by kernel_rfl) (fun _ _ _ h => h) (Or.inl ⟨by rfl, fun w9 hSw => ?_⟩) hH ?_
        · (try dsimp only at hSw); go_simp
        conv => arg 8; simp only [Act.put, List.setIfInBounds_toArray, List.set_cons_zero, List.set_cons_succ]
        refine wpAnyH_done (by kernel_rfl) ?_ _
        have ER : RetG (five u40 g (.slice ja m1 jia) (.slice jb m2 jib) (.slice jc m3 jic) (.slice jd m4 jid) (.bool jb0)) [(s, so)] [LN] so (.slice ja m1 jia) (.slice jb m2 jib) (.slice jc m3 jic) (.slice jd m4 jid) jb0 jn := FR.off (bxk_of (a := (none, 0, 0)) (b := (none, 0, 0)) (c := (none, 0, 0)) (d := (none, 0, 0)) FX) (off_five _ _ _ _ _ _ _)
        have ET : jn = 0 → Tl (five u40 g (.slice ja m1 jia) (.slice jb m2 jib) (.slice jc m3 jic) (.slice jd m4 jid) (.bool jb0)) (.slice jt1 jt2 jt3) (G.tabs (G.out so (G.left [(s, so)] [LN])).ids [(s, so)] [LN]) := fun h9 => ((FT h9).five hgB _ _ _ _ _).tl
        have EX : (five u40 g (.slice ja m1 jia) (.slice jb m2 jib) (.slice jc m3 jic) (.slice jd m4 jid) (.bool jb0)).heap[g]? = some (.cells #[.slice ja m1 jia, .slice jb m2 jib, .slice jc m3 jic, .slice jd m4 jid, .bool jb0] 30 (0, 0)) := by simpa [five] using bset (bset (bset (bset (bset FX 0 (.slice ja m1 jia)) 1 (.slice jb m2 jib)) 2 (.slice jc m3 jic)) 3 (.slice jd m4 jid)) 4 (.bool jb0)
        unfold five at ER ET EX
        have HER := hide ER
        have HET := hide ET
        have HEX := hide EX
        have HEB := hide hH.1
        clear ER ET EX FX FR FT hH
        go_wp2_with fail
        go_meet
        exact ⟨g, ja, jb, jc, jd, m1, m2, m3, m4, jia, jib, jic, jid, _, jb0, jn, rfl, rfl, rfl, unhide HEX, unhide HER, unhide HET, ⟨_, _, _, rfl⟩, unhide HEB⟩
      refine AllReadyH.cons rfl (fun K hK => ?_) AllReadyH.nil
      go_simp
      have FX := heap_alloc_new u0 (.cells #[.slice none 0 0, .slice none 0 0, .slice none 0 0, .slice none 0 0, .bool false] 30)
      have BA := below_alloc u0 (.cells #[.slice none 0 0, .slice none 0 0, .slice none 0 0, .slice none 0 0, .bool false] 30)
      have hzz : u0.heap.size + 1 = (u0.alloc (.cells #[.slice none 0 0, .slice none 0 0, .slice none 0 0, .slice none 0 0, .bool false] 30)).heap.size := by simp
      obtain ⟨u41, hu⟩ : ∃ u41, u41 = u0.alloc (.cells #[.slice none 0 0, .slice none 0 0, .slice none 0 0, .slice none 0 0, .bool false] 30) := ⟨_, rfl⟩
      rw [← hu] at FX BA hzz ⊢
      have hgB0 : u0.heap.size ≤ u0.heap.size := Nat.le_refl _
      obtain ⟨g, hk9⟩ : ∃ g, u0.heap.size = g := ⟨_, rfl⟩
      have hg4 : w4.heap.size ≤ g := by rw [← hk9]; exact hH.1.size
      rw [hk9] at FX hzz
      simp only [hk9]
      replace FS := FS.below BA
      have A9 := below_trans' hH.1 BA
      have hgS : g < u41.heap.size := by omega
      clear hu hk9 BA hzz hgB0
      refine hK.out _ _ (unhide HKB _ A9) (fun hH9 => ?_)
      clear hH
      have hH := hH9
      clear hH9 hK K
      try (conv => arg 8; simp only [Act.put, List.setIfInBounds_toArray, List.set_cons_zero, List.set_cons_succ])
      clear A9
      refine wpAnyH_ready (rs := [1, 5]) (by kernel_rfl) (by simp) ?_
      refine AllReadyH.cons rfl (fun K hK => ?_) ?_
      · skip
        go_simp
        have FG := Gs.one (so := so) (e := 30) FS rfl
        have BA := below_alloc u41 (.cells #[.slice ia s.ids.length ic, .slice ka s.keys.length kc, .slice lna s.lens.length lnc, .slice ta s.ts.length tc, .bool so] 30)
        obtain ⟨u42, hu⟩ : ∃ u42, u42 = u41.alloc (.cells #[.slice ia s.ids.length ic, .slice ka s.keys.length kc, .slice lna s.lens.length lnc, .slice ta s.ts.length tc, .bool so] 30) := ⟨_, rfl⟩
        rw [← hu] at FG BA ⊢
        obtain ⟨k1, hk9⟩ : ∃ k1, u41.heap.size = k1 := ⟨_, rfl⟩
        rw [hk9] at FG
        simp only [hk9]
        replace FS := FS.below BA
        replace FX := box_below FX BA
        have A9 := below_trans' hH.1 BA
        clear hu hk9 BA
        refine hK.out _ _ (unhide HKB _ A9) (fun hH9 => ?_)
        clear hH
        have hH := hH9
        clear hH9 hK K
        try (conv => arg 8; simp only [Act.put, List.setIfInBounds_toArray, List.set_cons_zero, List.set_cons_succ])
        clear A9
        refine wpAnyH_ready (rs := [5]) (by kernel_rfl) (by simp) ?_
        refine AllReadyH.cons rfl (fun K hK => ?_) AllReadyH.nil
        go_simp
        refine (CNW u42).mono ?_
        rintro e9 u43 ⟨nw9, rfl, O9, BA⟩
        have FN := Gl.owned O9
        obtain ⟨na9, nc9, hnw, -⟩ := id FN
        subst hnw
        replace FS := FS.below BA
        replace FG := FG.below BA
        replace FX := box_below FX BA
        have A9 := below_trans' hH.1 BA
        clear BA O9
        refine hK.out _ _ (unhide HKB _ A9) (fun hH9 => ?_)
        clear hH
        have hH := hH9
        clear hH9 hK K
        try (conv => arg 8; simp only [Act.put, List.setIfInBounds_toArray, List.set_cons_zero, List.set_cons_succ])
        clear A9
        refine wpAnyH_ready (rs := [6]) (by kernel_rfl) (by simp) ?_
        refine AllReadyH.cons rfl (fun K hK => ?_) AllReadyH.nil
        go_simp
        have FB := Bll.one (e := 38) FN rfl
        have BA := below_alloc u43 (.cells #[.slice na9 LN.length nc9] 38)
        obtain ⟨u44, hu⟩ : ∃ u44, u44 = u43.alloc (.cells #[.slice na9 LN.length nc9] 38) := ⟨_, rfl⟩
        rw [← hu] at FB BA ⊢
        obtain ⟨k6, hk9⟩ : ∃ k6, u43.heap.size = k6 := ⟨_, rfl⟩
        rw [hk9] at FB
        simp only [hk9]
        replace FS := FS.below BA
        replace FG := FG.below BA
        replace FN := FN.below BA
        replace FX := box_below FX BA
        have A9 := below_trans' hH.1 BA
        clear hu hk9 BA
        refine hK.out _ _ (unhide HKB _ A9) (fun hH9 => ?_)
        clear hH
        have hH := hH9
        clear hH9 hK K
        try (conv => arg 8; simp only [Act.put, List.setIfInBounds_toArray, List.set_cons_zero, List.set_cons_succ])
        clear A9
        refine wpAnyH_ready (rs := [9]) (by kernel_rfl) (by simp) ?_
        refine AllReadyH.cons rfl (fun K hK => ?_) AllReadyH.nil
        have hgB := (Array.getElem?_eq_some_iff.1 FX).1
        go_simp
        refine (mergeM_any _ _ [(s, so)] [LN] so u44 FG FB (big_one (s := (s, so)) (unhide F1)) (by simp) (fun hR => by have := G.left_le hR; simp at this; omega)).mono ?_
        rintro e9 u45 h9
        obtain ⟨ja, jb, jc, jd, m1, m2, m3, m4, jia, jib, jic, jid, jv, jb0, jn, rfl, FR, FT, -, ⟨jt1, jt2, jt3, rfl⟩, BA⟩ := h9.ret
        replace FS := FS.below BA
        replace FG := FG.below BA
        replace FN := FN.below BA
        replace FB := FB.below BA
        replace FX := box_below FX BA
        have A9 := below_trans' hH.1 BA
        clear BA h9
        refine hK.out _ _ (unhide HKB _ A9) (fun hH9 => ?_)
        clear hH
        have hH := hH9
        clear hH9 hK K
        try (conv => arg 8; simp only [Act.put, List.setIfInBounds_toArray, List.set_cons_zero, List.set_cons_succ])
        clear A9
        refine takeH11 (i := 10) (d := some 29) (v := .tuple #[.agg #[.slice ja m1 jia, .slice jb m2 jib, .slice jc m3 jic, .slice jd m4 jid, .bool jb0], .slice jt1 jt2 jt3, .int .i64 jn]) rfl rfl (by kernel_rfl) (by kernel_rfl) (by kernel_rfl) (fun _ _ _ h => h) (Or.inl ⟨by rfl, fun w9 hSw => ?_⟩) hH ?_
        · (try dsimp only at hSw); go_simp
        conv => arg 8; simp only [Act.put, List.setIfInBounds_toArray, List.set_cons_zero, List.set_cons_succ]
        refine takeH11 (i := 11) (d := some 40) (v := .agg #[.slice ja m1 jia, .slice jb m2 jib, .slice jc m3 jic, .slice jd m4 jid, .bool jb0]) rfl rfl (by kernel_rfl) (by kernel_rfl) (by kernel_rfl) (fun _ _ _ h => h) (Or.inl ⟨by rfl, fun w9 hSw => ?_⟩) hH ?_
        · (try dsimp only at hSw); go_simp
        conv => arg 8; simp only [Act.put, List.setIfInBounds_toArray, List.set_cons_zero, List.set_cons_succ]
        refine takeH11 (i := 12) (d := some 41) (v := .slice jt1 jt2 jt3) rfl rfl (by kernel_rfl) (by kernel_rfl) (by kernel_rfl) (fun _ _ _ h => h) (Or.inl ⟨by rfl, fun w9 hSw => ?_⟩) hH ?_
        · (try dsimp only at hSw); go_simp
        conv => arg 8; simp only [Act.put, List.setIfInBounds_toArray, List.set_cons_zero, List.set_cons_succ]
        refine takeH11 (i := 13) (d := some 42) (v := .int .i64 jn) rfl rfl (by kernel_rfl) (by kernel_rfl) (by kernel_rfl) (fun _ _ _ h => h) (Or.inl ⟨by rfl, fun w9 hSw => ?_⟩) hH ?_
        · (try dsimp only at hSw); go_simp
        conv => arg 8; simp only [Act.put, List.setIfInBounds_toArray, List.set_cons_zero, List.set_cons_succ]
        refine wpAnyH_ready (rs := [15]) (by kernel_rfl) (by simp) ?_
        refine AllReadyH.cons rfl (fun K hK => ?_) AllReadyH.nil
        have s0 := box_cell FX (j := 0) rfl
        have s1 := box_cell FX (j := 1) rfl
        have s2 := box_cell FX (j := 2) rfl
        have s3 := box_cell FX (j := 3) rfl
        have s4 := box_cell FX (j := 4) rfl
        have f0 := bfro FX 0
        have f1 := bfro FX 1
        have f2 := bfro FX 2
        have f3 := bfro FX 3
        have f4 := bfro FX 4
        go_simp
        refine hK.out _ _ (unhide HKB _ (((((hH.1.setCell hg4 _).setCell hg4 _).setCell hg4 _).setCell hg4 _).setCell hg4 _)) (fun hH9 => ?_)
        clear hH
        have hH := hH9
        clear hH9 hK K
        try (conv => arg 8; simp only [Act.put, List.setIfInBounds_toArray, List.set_cons_zero, List.set_cons_succ])
        clear s0 s1 s2 s3 s4 f0 f1 f2 f3 f4
        refine takeH11 (i := 16) (d := some 9) (v := .slice jt1 jt2 jt3) rfl rfl (by kernel_rfl) (by kernel_rfl) (by kernel_rfl) (fun _ _ _ h => h) (Or.inl ⟨by rfl, fun w9 hSw => ?_⟩) hH ?_
        · (try dsimp only at hSw); go_simp
        conv => arg 8; simp only [Act.put, List.setIfInBounds_toArray, List.set_cons_zero, List.set_cons_succ]
        refine takeH11 (i := 17) (d := some 10) (v := .int .i64 jn) rfl rfl (by kernel_rfl) (by kernel_rfl) (by kernel_rfl) (fun _ _ _ h => h) (Or.inl ⟨by rfl, fun w9 hSw => ?_⟩) hH ?_
        · (try dsimp only at hSw); go_simp
        conv => arg 8; simp only [Act.put, List.setIfInBounds_toArray, List.set_cons_zero, List.set_cons_succ]
        refine wpAnyH_done (by kernel_rfl) ?_ _
        have ER : RetG (five u45 g (.slice ja m1 jia) (.slice jb m2 jib) (.slice jc m3 jic) (.slice jd m4 jid) (.bool jb0)) [(s, so)] [LN] so (.slice ja m1 jia) (.slice jb m2 jib) (.slice jc m3 jic) (.slice jd m4 jid) jb0 jn := FR.off (bxk_of (a := (none, 0, 0)) (b := (none, 0, 0)) (c := (none, 0, 0)) (d := (none, 0, 0)) FX) (off_five _ _ _ _ _ _ _)
        have ET : jn = 0 → Tl (five u45 g (.slice ja m1 jia) (.slice jb m2 jib) (.slice jc m3 jic) (.slice jd m4 jid) (.bool jb0)) (.slice jt1 jt2 jt3) (G.tabs (G.out so (G.left [(s, so)] [LN])).ids [(s, so)] [LN]) := fun h9 => ((FT h9).five hgB _ _ _ _ _).tl
        have EX : (five u45 g (.slice ja m1 jia) (.slice jb m2 jib) (.slice jc m3 jic) (.slice jd m4 jid) (.bool jb0)).heap[g]? = some (.cells #[.slice ja m1 jia, .slice jb m2 jib, .slice jc m3 jic, .slice jd m4 jid, .bool jb0] 30 (0, 0)) := by simpa [five] using bset (bset (bset (bset (bset FX 0 (.slice ja m1 jia)) 1 (.slice jb m2 jib)) 2 (.slice jc m3 jic)) 3 (.slice jd m4 jid)) 4 (.bool jb0)
        unfold five at ER ET EX
        have HER := hide ER
        have HET := hide ET
        have HEX := hide EX
        have HEB := hide hH.1
        clear ER ET EX FX FR FT hH
        go_wp2_with fail
        go_meet
        exact ⟨g, ja, jb, jc, jd, m1, m2, m3, m4, jia, jib, jic, jid, _, jb0, jn, rfl, rfl, rfl, unhide HEX, unhide HER, unhide HET, ⟨_, _, _, rfl⟩, unhide HEB⟩
      refine AllReadyH.cons rfl (fun K hK => ?_) AllReadyH.nil
      go_simp
      refine (CNW u41).mono ?_
      rintro e9 u46 ⟨nw9, rfl, O9, BA⟩
      have FN := Gl.owned O9
      obtain ⟨na9, nc9, hnw, -⟩ := id FN
      subst hnw
      replace FS := FS.below BA
      replace FX := box_below FX BA
      have A9 := below_trans' hH.1 BA
      clear BA O9
      refine hK.out _ _ (unhide HKB _ A9) (fun hH9 => ?_)
      clear hH
      have hH := hH9
      clear hH9 hK K
      try (conv => arg 8; simp only [Act.put, List.setIfInBounds_toArray, List.set_cons_zero, List.set_cons_succ])
      clear A9
      refine wpAnyH_ready (rs := [1, 6]) (by kernel_rfl) (by simp) ?_
      refine AllReadyH.cons rfl (fun K hK => ?_) ?_
      · skip
        go_simp
        have FG := Gs.one (so := so) (e := 30) FS rfl
        have BA := below_alloc u46 (.cells #[.slice ia s.ids.length ic, .slice ka s.keys.length kc, .slice lna s.lens.length lnc, .slice ta s.ts.length tc, .bool so] 30)
        obtain ⟨u47, hu⟩ : ∃ u47, u47 = u46.alloc (.cells #[.slice ia s.ids.length ic, .slice ka s.keys.length kc, .slice lna s.lens.length lnc, .slice ta s.ts.length tc, .bool so] 30) := ⟨_, rfl⟩
        rw [← hu] at FG BA ⊢
        obtain ⟨k1, hk9⟩ : ∃ k1, u46.heap.size = k1 := ⟨_, rfl⟩
        rw [hk9] at FG
        simp only [hk9]
        replace FS := FS.below BA
        replace FN := FN.below BA
        replace FX := box_below FX BA
        have A9 := below_trans' hH.1 BA
        clear hu hk9 BA
        refine hK.out _ _ (unhide HKB _ A9) (fun hH9 => ?_)
        clear hH
        have hH := hH9
        clear hH9 hK K
        try (conv => arg 8; simp only [Act.put, List.setIfInBounds_toArray, List.set_cons_zero, List.set_cons_succ])
        clear A9
        refine wpAnyH_ready (rs := [6]) (by kernel_rfl) (by simp) ?_
        refine AllReadyH.cons rfl (fun K hK => ?_) AllReadyH.nil
        go_simp
        have FB := Bll.one (e := 38) FN rfl
        have BA := below_alloc u47 (.cells #[.slice na9 LN.length nc9] 38)
        obtain ⟨u48, hu⟩ : ∃ u48, u48 = u47.alloc (.cells #[.slice na9 LN.length nc9] 38) := ⟨_, rfl⟩
        rw [← hu] at FB BA ⊢
        obtain ⟨k6, hk9⟩ : ∃ k6, u47.heap.size = k6 := ⟨_, rfl⟩
        rw [hk9] at FB
        simp only [hk9]
        replace FS := FS.below BA
        replace FG := FG.below BA
        replace FN := FN.below BA
        replace FX := box_below FX BA
        have A9 := below_trans' hH.1 BA
        clear hu hk9 BA
        refine hK.out _ _ (unhide HKB _ A9) (fun hH9 => ?_)
        clear hH
        have hH := hH9
        clear hH9 hK K
        try (conv => arg 8; simp only [Act.put, List.setIfInBounds_toArray, List.set_cons_zero, List.set_cons_succ])
        clear A9
        refine wpAnyH_ready (rs := [9]) (by kernel_rfl) (by simp) ?_
        refine AllReadyH.cons rfl (fun K hK => ?_) AllReadyH.nil
        have hgB := (Array.getElem?_eq_some_iff.1 FX).1
        go_simp
        refine (mergeM_any _ _ [(s, so)] [LN] so u48 FG FB (big_one (s := (s, so)) (unhide F1)) (by simp) (fun hR => by have := G.left_le hR; simp at this; omega)).mono ?_
        rintro e9 u49 h9
        obtain ⟨ja, jb, jc, jd, m1, m2, m3, m4, jia, jib, jic, jid, jv, jb0, jn, rfl, FR, FT, -, ⟨jt1, jt2, jt3, rfl⟩, BA⟩ := h9.ret
        replace FS := FS.below BA
        replace FG := FG.below BA
        replace FN := FN.below BA
        replace FB := FB.below BA
        replace FX := box_below FX BA
        have A9 := below_trans' hH.1 BA
        clear BA h9
        refine hK.out _ _ (unhide HKB _ A9) (fun hH9 => ?_)
        clear hH
        have hH := hH9
        clear hH9 hK K
        try (conv => arg 8; simp only [Act.put, List.setIfInBounds_toArray, List.set_cons_zero, List.set_cons_succ])
        clear A9
        refine takeH11 (i := 10) (d := some 29) (v := .tuple #[.agg #[.slice ja m1 jia, .slice jb m2 jib, .slice jc m3 jic, .slice jd m4 jid, .bool jb0], .slice jt1 jt2 jt3, .int .i64 jn]) rfl rfl (by kernel_rfl) (by kernel_rfl) (by kernel_rfl) (fun _ _ _ h => h) (Or.inl ⟨by rfl, fun w9 hSw => ?_⟩) hH ?_
        · (try dsimp only at hSw); go_simp
        conv => arg 8; simp only [Act.put, List.setIfInBounds_toArray, List.set_cons_zero, List.set_cons_succ]
        refine takeH11 (i := 11) (d := some 40) (v := .agg #[.slice ja m1 jia, .slice jb m2 jib, .slice jc m3 jic, .slice jd m4 jid, .bool jb0]) rfl rfl (by kernel_rfl) (by kernel_rfl) (by kernel_rfl) (fun _ _ _ h => h) (Or.inl ⟨by rfl, fun w9 hSw => ?_⟩) hH ?_
        · (try dsimp only at hSw); go_simp
        conv => arg 8; simp only [Act.put, List.setIfInBounds_toArray, List.set_cons_zero, List.set_cons_succ]
        refine takeH11 (i := 12) (d := some 41) (v := .slice jt1 jt2 jt3) rfl rfl (by kernel_rfl) (by kernel_rfl) (by kernel_rfl) (fun _ _ _ h => h) (Or.inl ⟨by rfl, fun w9 hSw => ?_⟩) hH ?_
        · (try dsimp only at hSw); go_simp
        conv => arg 8; simp only [Act.put, List.setIfInBounds_toArray, List.set_cons_zero, List.set_cons_succ]
        refine takeH11 (i := 13) (d := some 42) (v := .int .i64 jn) rfl rfl (by kernel_rfl) (by kernel_rfl) (by kernel_rfl) (fun _ _ _ h => h) (Or.inl ⟨by rfl, fun w9 hSw => ?_⟩) hH ?_
        · (try dsimp only at hSw); go_simp
        conv => arg 8; simp only [Act.put, List.setIfInBounds_toArray, List.set_cons_zero, List.set_cons_succ]
        refine wpAnyH_ready (rs := [15]) (by kernel_rfl) (by simp) ?_
        refine AllReadyH.cons rfl (fun K hK => ?_) AllReadyH.nil
        have s0 := box_cell FX (j := 0) rfl
        have s1 := box_cell FX (j := 1) rfl
        have s2 := box_cell FX (j := 2) rfl
        have s3 := box_cell FX (j := 3) rfl
        have s4 := box_cell FX (j := 4) rfl
        have f0 := bfro FX 0
        have f1 := bfro FX 1
        have f2 := bfro FX 2
        have f3 := bfro FX 3
        have f4 := bfro FX 4
        go_simp
        refine hK.out _ _ (unhide HKB _ (((((hH.1.setCell hg4 _).setCell hg4 _).setCell hg4 _).setCell hg4 _).setCell hg4 _)) (fun hH9 => ?_)
        clear hH
        have hH := hH9
        clear hH9 hK K
        try (conv => arg 8; simp only [Act.put, List.setIfInBounds_toArray, List.set_cons_zero, List.set_cons_succ])
        clear s0 s1 s2 s3 s4 f0 f1 f2 f3 f4
        refine takeH11 (i := 16) (d := some 9) (v := .slice jt1 jt2 jt3) rfl rfl (by kernel_rfl) (by kernel_rfl) (by kernel_rfl) (fun _ _ _ h => h) (Or.inl ⟨by rfl, fun w9 hSw => ?_⟩) hH ?_
        · (try dsimp only at hSw); go_simp
        conv => arg 8; simp only [Act.put, List.setIfInBounds_toArray, List.set_cons_zero, List.set_cons_succ]
        refine takeH11 (i := 17) (d := some 10) (v := .int .i64 jn) rfl rfl (by kernel_rfl) (by kernel_rfl) (by kernel_rfl) (fun _ _ _ h => h) (Or.inl ⟨by rfl, fun w9 hSw => ?_⟩) hH ?_
        · (try dsimp only at hSw); go_simp
        conv => arg 8; simp only [Act.put, List.setIfInBounds_toArray, List.set_cons_zero, List.set_cons_succ]
        refine wpAnyH_done (by kernel_rfl) ?_ _
        have ER : RetG (five u49 g (.slice ja m1 jia) (.slice jb m2 jib) (.slice jc m3 jic) (.slice jd m4 jid) (.bool jb0)) [(s, so)] [LN] so (.slice ja m1 jia) (.slice jb m2 jib) (.slice jc m3 jic) (.slice jd m4 jid) jb0 jn := FR.off (bxk_of (a := (none, 0, 0)) (b := (none, 0, 0)) (c := (none, 0, 0)) (d := (none, 0, 0)) FX) (off_five _ _ _ _ _ _ _)
        have ET : jn = 0 → Tl (five u49 g (.slice ja m1 jia) (.slice jb m2 jib) (.slice jc m3 jic) (.slice jd m4 jid) (.bool jb0)) (.slice jt1 jt2 jt3) (G.tabs (G.out so (G.left [(s, so)] [LN])).ids [(s, so)] [LN]) := fun h9 => ((FT h9).five hgB _ _ _ _ _).tl
        have EX : (five u49 g (.slice ja m1 jia) (.slice jb m2 jib) (.slice jc m3 jic) (.slice jd m4 jid) (.bool jb0)).heap[g]? = some (.cells #[.slice ja m1 jia, .slice jb m2 jib, .slice jc m3 jic, .slice jd m4 jid, .bool jb0] 30 (0, 0)) := by simpa [five] using bset (bset (bset (bset (bset FX 0 (.slice ja m1 jia)) 1 (.slice jb m2 jib)) 2 (.slice jc m3 jic)) 3 (.slice jd m4 jid)) 4 (.bool jb0)
        unfold five at ER ET EX
        have HER := hide ER
        have HET := hide ET
        have HEX := hide EX
        have HEB := hide hH.1
        clear ER ET EX FX FR FT hH
        go_wp2_with fail
        go_meet
        exact ⟨g, ja, jb, jc, jd, m1, m2, m3, m4, jia, jib, jic, jid, _, jb0, jn, rfl, rfl, rfl, unhide HEX, unhide HER, unhide HET, ⟨_, _, _, rfl⟩, unhide HEB⟩
      refine AllReadyH.cons rfl (fun K hK => ?_) AllReadyH.nil
      go_simp
      have FB := Bll.one (e := 38) FN rfl
      have BA := below_alloc u46 (.cells #[.slice na9 LN.length nc9] 38)
      obtain ⟨u50, hu⟩ : ∃ u50, u50 = u46.alloc (.cells #[.slice na9 LN.length nc9] 38) := ⟨_, rfl⟩
      rw [← hu] at FB BA ⊢
      obtain ⟨k6, hk9⟩ : ∃ k6, u46.heap.size = k6 := ⟨_, rfl⟩
      rw [hk9] at FB
      simp only [hk9]
      replace FS := FS.below BA
      replace FN := FN.below BA
      replace FX := box_below FX BA
      have A9 := below_trans' hH.1 BA
      clear hu hk9 BA
      refine hK.out _ _ (unhide HKB _ A9) (fun hH9 => ?_)
      clear hH
      have hH := hH9
      clear hH9 hK K
      try (conv => arg 8; simp only [Act.put, List.setIfInBounds_toArray, List.set_cons_zero, List.set_cons_succ])
      clear A9
      refine wpAnyH_ready (rs := [1]) (by kernel_rfl) (by simp) ?_
      refine AllReadyH.cons rfl (fun K hK => ?_) AllReadyH.nil
      go_simp
      have FG := Gs.one (so := so) (e := 30) FS rfl
      have BA := below_alloc u50 (.cells #[.slice ia s.ids.length ic, .slice ka s.keys.length kc, .slice lna s.lens.length lnc, .slice ta s.ts.length tc, .bool so] 30)
      obtain ⟨u51, hu⟩ : ∃ u51, u51 = u50.alloc (.cells #[.slice ia s.ids.length ic, .slice ka s.keys.length kc, .slice lna s.lens.length lnc, .slice ta s.ts.length tc, .bool so] 30) := ⟨_, rfl⟩
      rw [← hu] at FG BA ⊢
      obtain ⟨k1, hk9⟩ : ∃ k1, u50.heap.size = k1 := ⟨_, rfl⟩
      rw [hk9] at FG
      simp only [hk9]
      replace FS := FS.below BA
      replace FN := FN.below BA
      replace FB := FB.below BA
      replace FX := box_below FX BA
      have A9 := below_trans' hH.1 BA
      clear hu hk9 BA
      refine hK.out _ _ (unhide HKB _ A9) (fun hH9 => ?_)
      clear hH
      have hH := hH9
      clear hH9 hK K
      try (conv => arg 8; simp only [Act.put, List.setIfInBounds_toArray, List.set_cons_zero, List.set_cons_succ])
      clear A9
      refine wpAnyH_ready (rs := [9]) (by kernel_rfl) (by simp) ?_
      refine AllReadyH.cons rfl (fun K hK => ?_) AllReadyH.nil
      have hgB := (Array.getElem?_eq_some_iff.1 FX).1
      go_simp
      refine (mergeM_any _ _ [(s, so)] [LN] so u51 FG FB (big_one (s := (s, so)) (unhide F1)) (by simp) (fun hR => by have := G.left_le hR; simp at this; omega)).mono ?_
      rintro e9 u52 h9
      obtain ⟨ja, jb, jc, jd, m1, m2, m3, m4, jia, jib, jic, jid, jv, jb0, jn, rfl, FR, FT, -, ⟨jt1, jt2, jt3, rfl⟩, BA⟩ := h9.ret
      replace FS := FS.below BA
      replace FG := FG.below BA
      replace FN := FN.below BA
      replace FB := FB.below BA
      replace FX := box_below FX BA
      have A9 := below_trans' hH.1 BA
      clear BA h9
      refine hK.out _ _ (unhide HKB _ A9) (fun hH9 => ?_)
      clear hH
      have hH := hH9
      clear hH9 hK K
      try (conv => arg 8; simp only [Act.put, List.setIfInBounds_toArray, List.set_cons_zero, List.set_cons_succ])
      clear A9
      refine takeH11 (i := 10) (d := some 29) (v := .tuple #[.agg #[.slice ja m1 jia, .slice jb m2 jib, .slice jc m3 jic, .slice jd m4 jid, .bool jb0], .slice jt1 jt2 jt3, .int .i64 jn]) rfl rfl (by kernel_rfl) (by kernel_rfl) (by kernel_rfl) (fun _ _ _ h => h) (Or.inl ⟨by rfl, fun w9 hSw => ?_⟩) hH ?_
      · (try dsimp only at hSw); go_simp
      conv => arg 8; simp only [Act.put, List.setIfInBounds_toArray, List.set_cons_zero, List.set_cons_succ]
      refine takeH11 (i := 11) (d := some 40) (v := .agg #[.slice ja m1 jia, .slice jb m2 jib, .slice jc m3 jic, .slice jd m4 jid, .bool jb0]) rfl rfl (by kernel_rfl) (by kernel_rfl) (by kernel_rfl) (fun _ _ _ h => h) (Or.inl ⟨by rfl, fun w9 hSw => ?_⟩) hH ?_
      · (try dsimp only at hSw); go_simp
      conv => arg 8; simp only [Act.put, List.setIfInBounds_toArray, List.set_cons_zero, List.set_cons_succ]
      refine takeH11 (i := 12) (d := some 41) (v := .slice jt1 jt2 jt3) rfl rfl (by kernel_rfl) (by kernel_rfl) (by kernel_rfl) (fun _ _ _ h => h) (Or.inl ⟨by rfl, fun w9 hSw => ?_⟩) hH ?_
      · (try dsimp only at hSw); go_simp
      conv => arg 8; simp only [Act.put, List.setIfInBounds_toArray, List.set_cons_zero, List.set_cons_succ]
      refine takeH11 (i := 13) (d := some 42) (v := .int .i64 jn) rfl rfl (by kernel_rfl) (by kernel_rfl) (by kernel_rfl) (fun _ _ _ h => h) (Or.inl ⟨by rfl, fun w9 hSw => ?_⟩) hH ?_
      · (try dsimp only at hSw); go_simp
      conv => arg 8; simp only [Act.put, List.setIfInBounds_toArray, List.set_cons_zero, List.set_cons_succ]
      refine wpAnyH_ready (rs := [15]) (by kernel_rfl) (by simp) ?_
      refine AllReadyH.cons rfl (fun K hK => ?_) AllReadyH.nil
      have s0 := box_cell FX (j := 0) rfl
      have s1 := box_cell FX (j := 1) rfl
      have s2 := box_cell FX (j := 2) rfl
      have s3 := box_cell FX (j := 3) rfl
      have s4 := box_cell FX (j := 4) rfl
      have f0 := bfro FX 0
      have f1 := bfro FX 1
      have f2 := bfro FX 2
      have f3 := bfro FX 3
      have f4 := bfro FX 4
      go_simp
      refine hK.out _ _ (unhide HKB _ (((((hH.1.setCell hg4 _).setCell hg4 _).setCell hg4 _).setCell hg4 _).setCell hg4 _)) (fun hH9 => ?_)
      clear hH
      have hH := hH9
      clear hH9 hK K
      try (conv => arg 8; simp only [Act.put, List.setIfInBounds_toArray, List.set_cons_zero, List.set_cons_succ])
      clear s0 s1 s2 s3 s4 f0 f1 f2 f3 f4
      refine takeH11 (i := 16) (d := some 9) (v := .slice jt1 jt2 jt3) rfl rfl (by kernel_rfl) (by kernel_rfl) (by kernel_rfl) (fun _ _ _ h => h) (Or.inl ⟨by rfl, fun w9 hSw => ?_⟩) hH ?_
      · (try dsimp only at hSw); go_simp
      conv => arg 8; simp only [Act.put, List.setIfInBounds_toArray, List.set_cons_zero, List.set_cons_succ]
      refine takeH11 (i := 17) (d := some 10) (v := .int .i64 jn) rfl rfl (by kernel_rfl) (by kernel_rfl) (by kernel_rfl) (fun _ _ _ h => h) (Or.inl ⟨by rfl, fun w9 hSw => ?_⟩) hH ?_
      · (try dsimp only at hSw); go_simp
      conv => arg 8; simp only [Act.put, List.setIfInBounds_toArray, List.set_cons_zero, List.set_cons_succ]
      refine wpAnyH_done (by kernel_rfl) ?_ _
      have ER : RetG (five u52 g (.slice ja m1 jia) (.slice jb m2 jib) (.slice jc m3 jic) (.slice jd m4 jid) (.bool jb0)) [(s, so)] [LN] so (.slice ja m1 jia) (.slice jb m2 jib) (.slice jc m3 jic) (.slice jd m4 jid) jb0 jn := FR.off (bxk_of (a := (none, 0, 0)) (b := (none, 0, 0)) (c := (none, 0, 0)) (d := (none, 0, 0)) FX) (off_five _ _ _ _ _ _ _)
      have ET : jn = 0 → Tl (five u52 g (.slice ja m1 jia) (.slice jb m2 jib) (.slice jc m3 jic) (.slice jd m4 jid) (.bool jb0)) (.slice jt1 jt2 jt3) (G.tabs (G.out so (G.left [(s, so)] [LN])).ids [(s, so)] [LN]) := fun h9 => ((FT h9).five hgB _ _ _ _ _).tl
      have EX : (five u52 g (.slice ja m1 jia) (.slice jb m2 jib) (.slice jc m3 jic) (.slice jd m4 jid) (.bool jb0)).heap[g]? = some (.cells #[.slice ja m1 jia, .slice jb m2 jib, .slice jc m3 jic, .slice jd m4 jid, .bool jb0] 30 (0, 0)) := by simpa [five] using bset (bset (bset (bset (bset FX 0 (.slice ja m1 jia)) 1 (.slice jb m2 jib)) 2 (.slice jc m3 jic)) 3 (.slice jd m4 jid)) 4 (.bool jb0)
      unfold five at ER ET EX
      have HER := hide ER
      have HET := hide ET
      have HEX := hide EX
      have HEB := hide hH.1
      clear ER ET EX FX FR FT hH
      go_wp2_with fail
      go_meet
      exact ⟨g, ja, jb, jc, jd, m1, m2, m3, m4, jia, jib, jic, jid, _, jb0, jn, rfl, rfl, rfl, unhide HEX, unhide HER, unhide HET, ⟨_, _, _, rfl⟩, unhide HEB⟩
    case rest =>
      rw [unhide HP5]
      obtain ⟨g, ja, jb, jc, jd, m1, m2, m3, m4, jia, jib, jic, jid, jv, jb0, jn, rfl, rfl, rfl, XG, RG, TT, ⟨t1, t2, t3, rfl⟩, BC⟩ := hcut
      obtain ⟨w7, hw7⟩ : ∃ w7, w7 = wc := ⟨_, rfl⟩
      rw [← hw7] at XG RG TT BC ⊢
      clear hw7
      have X0 := box_below (unhide HX0) BC
      have X5 := box_below (unhide HX5) BC
      have S7 := (unhide HS4).below BC
      have BB7 := below_trans' (unhide BB4) BC
      have CY := segMay_all ia ka lna ta ic kc lnc tc s so w7 S7 (fun x hx => by have := (unhide F1).1 x hx; unfold maxLen; omega) (by have := (unhide F1).2; omega)
      have x0 := box_cell X0 (j := 0) rfl
      have x1 := box_cell X0 (j := 1) rfl
      have x2 := box_cell X0 (j := 2) rfl
      have x3 := box_cell X0 (j := 3) rfl
      have x4 := box_cell X0 (j := 4) rfl
      clear CNW BC
      go_wp2_with fail
      refine CY.mono ?_
      rintro e w8 ⟨r, rfl, hr, B8⟩
      have BB8 := below_trans' BB7 B8
      clear CY BB7 x0 x1 x2 x3 x4
      cases r with
      | false =>
        obtain rfl : jn = 1 := one_err RG.1 (fun hM => by have := hr.2 hM; cases this)
        clear hr XG RG TT X0 X5 S7 B8
        go_wp2
        go_ret
        exact ⟨rfl, BB8⟩
      | true =>
        have hM := hr.1 rfl
        have e0 : jn = 0 := by
          have := RG.1
          rw [← unhide HLN] at this
          exact one_right hM this
        subst e0
        obtain ⟨hb0, SR⟩ := RG.2 rfl
        obtain rfl : so = jb0 := hb0.symm
        rw [← unhide HLN, one_seg hM] at SR
        obtain ⟨rfl, rfl, rfl, rfl⟩ := SR.lens11
        have TL := TT rfl
        rw [← unhide HLN, one_seg hM] at TL
        obtain ⟨tt, et, elen, eat⟩ := one_tab hM
        rw [et] at TL
        obtain ⟨a9, c9, hv9, -, -, ho9⟩ := (TL.below B8).at
        simp only [Value.slice.injEq] at hv9
        obtain ⟨rfl, rfl, rfl⟩ := hv9
        obtain ⟨tb, toff, rfl, htb, htc⟩ := ho9 (by simp)
        obtain ⟨xa, xc, y0, gl⟩ := htc 0 tt rfl
        have hn64 := hM.heads.n64
        have X0' := box_below X0 B8
        have X5' := box_below X5 B8
        have XG' := box_below XG B8
        have S8 := S7.below B8
        have SR8 := SR.below B8
        have HET := hide eat
        have HEL := hide elen
        have HX0' := hide X0'
        have HX5' := hide X5'
        have HXG' := hide XG'
        have HS8 := hide S8
        have HSR := hide SR8
        have HGL := hide gl
        have hl1 : ([tt] : List (List Int)).length = 1 := rfl
        rw [hl1]
        have Y0 : Hid (w8.cell? ⟨tb, toff, none⟩ = some (.slice xa tt.length xc)) := y0
        have hbw := hide BB8
        clear hr hM RG SR TT TL et ho9 htc gl eat elen X0 X5 XG X0' X5' XG' S7 S8 SR8 B8 y0 hl1 BB8
        go_wp2
        go_loopw [11] (fun iv wr => ∃ k : Nat, k ≤ s.ids.length ∧ iv = .int .i64 k ∧ Below w8.heap.size w8 wr) (fun iv _ => s.ids.length - (intOf iv).toNat)
        case atStart => exact ⟨0, Nat.zero_le _, rfl, Below.refl _ _⟩
        case round =>
          obtain ⟨k, hk, rfl, hbel⟩ := hrel
          have XR := box_below (unhide HX0') hbel
          have x0 := box_cell XR (j := 0) rfl
          by_cases hlt : k < s.ids.length
          · have c0 := cellK10 (unhide Y0) hbel
            obtain ⟨a8, c8, hv8, -, -, -, ho8⟩ := ((unhide HGL).below hbel).open
            simp only [Value.slice.injEq, true_and] at hv8
            obtain ⟨rfl, rfl⟩ := hv8
            have hkt : k < tt.length := by have := unhide HEL; omega
            obtain ⟨ib, io, rfl, hib, hic⟩ := ho8 (by omega)
            have c1 := hic k _ ((unhide HET) k hlt)
            have q1 : ¬ ((tt.length : Int) ≤ (k : Int)) := by omega
            have q2 : ((k : Int) != (k : Int)) = false := by simp
            clear XR ho8 hic
            go_wp2
            go_roundw
            case rel => exact ⟨k + 1, by omega, by go_num, hbel⟩
            case measure => simp [intOf]; omega
          · have XG9 := box_below (unhide HXG') hbel
            have X59 := box_below (unhide HX5') hbel
            have CS := segSame_any ja jb jc jd jia jib jic jid s so ia ka lna ta ic kc lnc tc wr ((unhide HSR).below hbel) ((unhide HS8).below hbel)
            have x1 := box_cell XR (j := 1) rfl
            have x2 := box_cell XR (j := 2) rfl
            have x3 := box_cell XR (j := 3) rfl
            have x4 := box_cell XR (j := 4) rfl
            have z0 := box_cell XG9 (j := 0) rfl
            have z1 := box_cell XG9 (j := 1) rfl
            have z2 := box_cell XG9 (j := 2) rfl
            have z3 := box_cell XG9 (j := 3) rfl
            have z4 := box_cell XG9 (j := 4) rfl
            have HB9 := hide (below_trans' (unhide hbw) hbel)
            clear XR XG9
            go_wp2_with fail
            refine CS.mono ?_
            rintro e w9 ⟨rfl, B9⟩
            have X5A := box_below X59 B9
            have v0 := box_cell X5A (j := 0) rfl
            have v3 := box_cell X5A (j := 3) rfl
            have HBE := hide (below_trans' (unhide HB9) B9)
            clear CS B9 X5A X59 x0 x1 x2 x3 x4 z0 z1 z2 z3 z4
            go_wp2
            go_ret
            exact ⟨rfl, unhide HBE⟩
end Go.Proofs.YtnahjaloodeicaaGreat
