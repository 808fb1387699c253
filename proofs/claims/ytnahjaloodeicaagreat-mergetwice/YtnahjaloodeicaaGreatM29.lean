/-
  Texts put together: Begin11.
-/
import Derived.Test.YtnahjaloodeicaaGreatM27
import Derived.Test.YtnahjaloodeicaaGreatM28
/-
  The contract of merge's begin: a segment's documents that live, as they are gone through, and a table of nothing yet.
-/
namespace Go.Proofs.YtnahjaloodeicaaGreat
set_option maxRecDepth 100000
open Go.RowKit Go.Deep

def BegEnd (w : World) (L : List Dc) (n : Nat) (e : Ending) (w' : World) : Prop :=
  ∃ (la : Option Addr) (lc tb : Nat), e = .returned (.agg #[.slice la L.length lc, .slice (some ⟨tb, 0, none⟩) n n]) ∧ w'.ownsRow w.heap.size 94 4 (.slice la L.length lc) L.length (L.flatMap encD) ∧
    w'.ownsRow w.heap.size 3 1 (.slice (some ⟨tb, 0, none⟩) n n) n ((List.replicate n (-1)).map (Value.int .i64)) ∧ Below w.heap.size w w'

/-- What was taken by then. -/
def wkK (so : Bool) (s : Sg) (a : List Bool) (k : Nat) : List Dc := (((G.idx so s).take k).filter fun d => a.getD d false).map (G.doc s)
theorem wkK_step {so : Bool} {s : Sg} {a : List Bool} {k d : Nat} {b : Bool} (h : (G.idx so s)[k]? = some d) (hb : a[d]? = some b) : wkK so s a (k + 1) = wkK so s a k ++ if b = true then [G.doc s d] else [] := by
  unfold wkK
  obtain ⟨hk, rfl⟩ := List.getElem?_eq_some_iff.1 h
  rw [List.take_succ_eq_append_getElem hk, List.filter_append, List.map_append]
  congr 1
  have : a.getD (G.idx so s)[k] false = b := by simp [List.getD, hb]
  cases b with
  | true => rw [List.filter_cons_of_pos (by exact this)]; rfl
  | false => rw [List.filter_cons_of_neg (by rw [this]; decide)]; rfl
theorem wkK_len {so : Bool} {s : Sg} {a : List Bool} {k : Nat} : (wkK so s a k).length ≤ k := by
  unfold wkK
  rw [List.length_map]
  exact Nat.le_trans (List.length_filter_le _ _) (by rw [List.length_take]; exact Nat.min_le_left _ _)
theorem wkK_all {so : Bool} {s : Sg} {a : List Bool} {k : Nat} (h : (G.idx so s).length ≤ k) : wkK so s a k = G.wk so s a := by
  unfold wkK G.wk
  rw [List.take_of_length_le h]

set_option maxRecDepth 100000 in
set_option maxHeartbeats 8000000 in
theorem beginM_any (ia ka lna ta : Option Addr) (ic kc lnc tc : Nat) (s : Sg) (so0 so : Bool) (va : Value) (a : List Bool) (w : World) (h : Sv w (.slice ia s.ids.length ic) (.slice ka s.keys.length kc) (.slice lna s.lens.length lnc) (.slice ta s.ts.length tc) s) (hM : MayP s so0)
    (ha : Gl .bool w va a) (hal : a.length = s.ids.length) :
    Calls Tryz.prog 49 #[.agg #[.slice ia s.ids.length ic, .slice ka s.keys.length kc, .slice lna s.lens.length lnc, .slice ta s.ts.length tc, .bool so0], va, .bool so] w (BegEnd w (G.wk so s a) s.ids.length) := by
  obtain ⟨i0, hi, hz0, hz1, hz2⟩ := info_parts Tryz.infoD
  obtain ⟨W, hW⟩ : ∃ W, W = ((w.alloc (.cells #[.slice ia s.ids.length ic, .slice ka s.keys.length kc, .slice lna s.lens.length lnc, .slice ta s.ts.length tc, .bool so0] 30)).alloc (.cells #[.slice none 0 0, .slice none 0 0] 89)).alloc (.cells #[.int .i64 (-1)] 3) := ⟨_, rfl⟩
  have BW : Below w.heap.size w W := by rw [hW]; exact below_all (below_all (below_alloc _ _) _) _
  have X0 : W.heap[w.heap.size]? = some (.cells #[.slice ia s.ids.length ic, .slice ka s.keys.length kc, .slice lna s.lens.length lnc, .slice ta s.ts.length tc, .bool so0] 30 (0, 0)) := by
    rw [hW]
    exact box_below (box_below (heap_alloc_new w _) (below_alloc _ _)) (below_alloc _ _)
  have R0 : W.heap[w.heap.size + 1]? = some (.cells #[.slice none 0 0, .slice none 0 0] 89 (0, 0)) := by
    rw [hW]
    refine box_below ?_ (below_alloc _ _)
    have := heap_alloc_new (w.alloc (.cells #[.slice ia s.ids.length ic, .slice ka s.keys.length kc, .slice lna s.lens.length lnc, .slice ta s.ts.length tc, .bool so0] 30)) (.cells #[.slice none 0 0, .slice none 0 0] 89)
    simpa using this
  have L0 : Il W (.slice (some ⟨w.heap.size + 1 + 1, 0, none⟩) 1 1) [-1] := by rw [hW]; exact Gl.lit [-1] rfl rfl (by decide) (by simp)
  have hsW : W.heap.size = w.heap.size + 3 := by rw [hW]; simp
  have HV := h.below BW
  have HA := ha.below BW
  obtain ⟨aa, ca, rfl, hla, hma, hna, -⟩ := ha.open
  have h64 := hM.heads.n64
  have CR := repeat_any (.slice (some ⟨w.heap.size + 1 + 1, 0, none⟩) 1 1) (-1) a.length W L0 (by omega)
  rw [hal] at CR
  have HW := hide hW
  have HSW := hide hsW
  have HM := hide hM
  have HAL := hide hal
  clear hW h ha hsW L0 hM
  go_enter Tryz.func49, Tryz.ntmps49
  go_wp2_with fail
  rw [← unhide HW]
  rw [unhide HAL]
  refine CR.mono ?_
  rintro e w1 ⟨rfl, OT, B1⟩
  have BB := below_trans' BW B1
  have X1 := box_below X0 B1
  have R1 := box_below R0 B1
  have HV1 := HV.below B1
  have HA1 := HA.below B1
  obtain ⟨tb, htb⟩ : ∃ tb, W.heap.size = tb := ⟨_, rfl⟩
  rw [htb] at OT ⊢
  have htbw : w.heap.size + 3 = tb := by rw [← unhide HSW, htb]
  have HTB := hide htb
  have htz : tb < w1.heap.size := (OT.lt tb rfl).2
  obtain ⟨W2, hW2⟩ : ∃ W2, W2 = w1.alloc (.cells #[.slice none 0 0, .slice (some ⟨tb, 0, none⟩) s.ids.length s.ids.length] 89) := ⟨_, rfl⟩
  have B2 : Below w1.heap.size w1 W2 := by rw [hW2]; exact below_alloc _ _
  have K2 : W2.heap[w1.heap.size]? = some (.cells #[.slice none 0 0, .slice (some ⟨tb, 0, none⟩) s.ids.length s.ids.length] 89 (0, 0)) := by rw [hW2]; exact heap_alloc_new w1 _
  obtain ⟨LI, hLI⟩ : ∃ LI, (G.idx so s).map (fun i : Nat => (i : Int)) = LI := ⟨_, rfl⟩
  have CO := orderM_any ia ka lna ta ic kc lnc tc s so0 so W2 (HV1.below B2) (unhide HM)
  rw [hLI] at CO
  have HLI := hide hLI
  have hl64 : LI.length ≤ 64 := by rw [← hLI, List.length_map, (G.idx_perm so (unhide HM)).length_eq, List.length_range]; exact h64
  have hs2 : W2.heap.size = w1.heap.size + 1 := by rw [hW2]; simp
  have HW2 := hide hW2
  have x0 := box_cell X1 (j := 0) rfl
  have x1 := box_cell X1 (j := 1) rfl
  have x2 := box_cell X1 (j := 2) rfl
  have x3 := box_cell X1 (j := 3) rfl
  have x4 := box_cell X1 (j := 4) rfl
  have HOT := hide OT
  have q0 : w.heap.size < w1.heap.size := by omega
  have HBB := hide BB
  have HR1 := hide R1
  have HX1 := hide X1
  have HV1' := hide HV1
  have HA1' := hide HA1
  have HK2 := hide K2
  have HB2 := hide B2
  have HS2 := hide hs2
  clear CR X0 R0 HV HA BW B1 OT htb BB X1 R1 HV1 HA1 hW2 B2 K2 hs2 hLI
  go_wp2_with fail
  rw [← unhide HW2]
  refine CO.mono ?_
  rintro e w3 ⟨vo, rfl, O3, B3⟩
  obtain ⟨oa, oc, hvo, -⟩ := id (Gl.owned O3)
  subst hvo
  have K3 := hide (box_below (unhide HK2) B3)
  have BW3 := (unhide HB2).trans (B3.mono (by have := unhide HS2; omega))
  clear CO x0 x1 x2 x3 x4 B3
  go_wp2
  go_loopw [19] (fun iv wr => ∃ (k : Nat) (L : List Dc) (la : Option Addr) (lc : Nat), k ≤ LI.length ∧ iv = .int .i64 k ∧ Hid (L = wkK so s a k) ∧ L.length ≤ k ∧ Hid (wr.heap[w1.heap.size]? = some (.cells #[.slice la L.length lc, .slice (some ⟨tb, 0, none⟩) s.ids.length s.ids.length] 89 (0, 0))) ∧
      wr.ownsRow W2.heap.size 94 4 (.slice la L.length lc) L.length (L.flatMap encD) ∧ wr.ownsRow W2.heap.size 3 1 (.slice oa LI.length oc) LI.length (LI.map (Value.int .i64)) ∧ Below w1.heap.size w1 wr) (fun iv _ => LI.length - (intOf iv).toNat)
  case atStart => exact ⟨0, [], none, 0, Nat.zero_le _, rfl, hide (by simp [wkK]), Nat.zero_le _, K3, World.ownsRow_nil _ _ _ _, O3, BW3⟩
  case round =>
    clear O3 BW3
    obtain ⟨k, L, la, lc, hk, rfl, HL, hLk, HK, hown, hord, hbel⟩ := hrel
    by_cases hlt : k < LI.length
    · obtain ⟨d, hd⟩ : ∃ d, (G.idx so s)[k]? = some d := ⟨_, List.getElem?_eq_getElem (by have := unhide HLI; rw [← this, List.length_map] at hlt; exact hlt)⟩
      have hdi : LI[k]? = some (d : Int) := by rw [← unhide HLI, List.getElem?_map, hd]; rfl
      have hdn : d < s.ids.length := List.mem_range.1 ((G.idx_perm so (unhide HM)).mem_iff.1 (List.mem_of_getElem? hd))
      obtain ⟨x, hx⟩ : ∃ x, s.ids[d]? = some x := ⟨_, List.getElem?_eq_getElem hdn⟩
      obtain ⟨y, hy⟩ : ∃ y, s.keys[d]? = some y := ⟨_, List.getElem?_eq_getElem (by have := (unhide HM).heads.nk; omega)⟩
      obtain ⟨b, hb⟩ : ∃ b, a[d]? = some b := ⟨_, List.getElem?_eq_getElem (by have := unhide HAL; omega)⟩
      have hdk : d < s.keys.length := by have := (unhide HM).heads.nk; omega
      have HDC : Hid (encD (G.doc s d) = [.int .i64 d, .string x, .int .i64 y, .slice none 0 0]) := by show _ = _; simp [encD, G.doc, List.getD, hx, hy]
      have HST := hide (wkK_step hd hb)
      obtain ⟨a', c', hv', -, -, -, ho⟩ := (Gl.owned hord).open
      simp only [Value.slice.injEq, true_and] at hv'
      obtain ⟨rfl, rfl⟩ := hv'
      obtain ⟨ob, oo, rfl, hob, hoc⟩ := ho (by omega)
      have c0 := hoc k _ hdi
      have HVR := (unhide HV1').below hbel
      obtain ⟨a', c', hv', -, -, -, ho⟩ := HVR.1.open
      simp only [Value.slice.injEq, true_and] at hv'
      obtain ⟨rfl, rfl⟩ := hv'
      obtain ⟨ib, io, rfl, hib, hidc⟩ := ho (by omega)
      have c1 := hidc d x hx
      have hib1 : ib < w1.heap.size := by
        obtain ⟨a', c', hv', -, -, -, ho9⟩ := (unhide HV1').1.open
        simp only [Value.slice.injEq] at hv'
        obtain ⟨b9, o9, e9, h9, -⟩ := ho9 (by omega)
        rw [← hv'.1] at e9
        simp only [Option.some.injEq, Addr.mk.injEq] at e9
        omega
      obtain ⟨a', c', hv', -, -, -, ho⟩ := (Il.of HVR.2.1).open
      simp only [Value.slice.injEq, true_and] at hv'
      obtain ⟨rfl, rfl⟩ := hv'
      obtain ⟨kb, ko, rfl, hkb, hkdc⟩ := ho (by omega)
      have c2 := hkdc d y hy
      have hkb1 : kb < w1.heap.size := by
        obtain ⟨a', c', hv', -, -, -, ho9⟩ := (Il.of (unhide HV1').2.1).open
        simp only [Value.slice.injEq] at hv'
        obtain ⟨b9, o9, e9, h9, -⟩ := ho9 (by omega)
        rw [← hv'.1] at e9
        simp only [Option.some.injEq, Addr.mk.injEq] at e9
        omega
      obtain ⟨a', c', hv', -, -, -, ho⟩ := ((unhide HA1').below hbel).open
      simp only [Value.slice.injEq, true_and] at hv'
      obtain ⟨rfl, rfl⟩ := hv'
      obtain ⟨ab, ao, rfl, hab, hac⟩ := ho (by have := unhide HAL; omega)
      have c3 := hac d b hb
      have XR := (hbel.block w.heap.size (by omega)).trans (unhide HX1)
      have x0 := box_cell XR (j := 0) rfl
      have x1 := box_cell XR (j := 1) rfl
      have s0 := box_cell (unhide HK) (j := 0) rfl
      have f0 := bfro (unhide HK) 0
      have hbs := hbel.size
      have hkz : w1.heap.size < wr.heap.size := (Array.getElem?_eq_some_iff.1 (unhide HK)).1
      have HSZ := hide (show W2.heap.size ≤ wr.heap.size by have := unhide HS2; omega)
      have q1 : ib ≠ wr.heap.size := by omega
      have q2 : kb ≠ wr.heap.size := by omega
      have q3 : w.heap.size ≠ wr.heap.size := by omega
      have q4 : w1.heap.size ≠ wr.heap.size := by omega
      clear hd hdi hx hy hb ho hoc hidc hkdc hac HVR XR
      cases b with
      | false =>
        have HO := hide hown
        have HQ := hide hord
        clear hown hord
        go_wp2
        go_roundw
        case rel => exact ⟨k + 1, L, la, lc, by omega, by go_num, hide (by rw [unhide HST, ← unhide HL]; simp), by omega, HK, unhide HO, unhide HQ, hbel⟩
        case measure => simp [intOf]; omega
      | true =>
        have ORW := hown
        have hne : (Value.slice la L.length lc).ownBlock ≠ some w1.heap.size := fun e => by have := (ORW.lt _ e).1; have := unhide HS2; omega
        have HQ := hide hord
        have HBL := hide hbel
        have KB : ∀ w' : World, Below w1.heap.size w1 w' → Below w1.heap.size w1 w' ∧ w'.cell? ⟨w.heap.size, 0, none⟩ = some (.slice (some ⟨ib, io, none⟩) s.ids.length ic) ∧ w'.cell? ⟨w.heap.size, 1, none⟩ = some (.slice (some ⟨kb, ko, none⟩) s.keys.length kc) ∧ w'.cell? ⟨ib, io + d, none⟩ = some (.string x) ∧ w'.cell? ⟨kb, ko + d, none⟩ = some (.int .i64 y) := fun w' hb => by
          have hb1 := hb.block w.heap.size (by omega)
          have hb2 := hb.block ib hib1
          have hb3 := hb.block kb hkb1
          have e0 := (unhide HBL).block w.heap.size (by omega)
          have e2 := (unhide HBL).block ib hib1
          have e3 := (unhide HBL).block kb hkb1
          exact ⟨hb, (World.cell?_of_block (hb1.trans e0.symm)).trans x0, (World.cell?_of_block (hb1.trans e0.symm)).trans x1, (World.cell?_of_block (hb2.trans e2.symm)).trans c1, (World.cell?_of_block (hb3.trans e3.symm)).trans c2⟩
        have HKB := hide KB
        have BA : Below w1.heap.size w1 (wr.alloc (.cells #[.int .i64 d, .string x, .int .i64 y, .slice none 0 0] 94)).drew := ((unhide HBL).alloc (by omega) _).drew
        clear hown hord KB x0 x1 c1 c2
        go_wp2
        refine wp_region_held_drew (S := fun w' => Below w1.heap.size w1 w' ∧ w'.cell? ⟨w.heap.size, 0, none⟩ = some (.slice (some ⟨ib, io, none⟩) s.ids.length ic) ∧ w'.cell? ⟨w.heap.size, 1, none⟩ = some (.slice (some ⟨kb, ko, none⟩) s.keys.length kc) ∧ w'.cell? ⟨ib, io + d, none⟩ = some (.string x) ∧ w'.cell? ⟨kb, ko + d, none⟩ = some (.int .i64 y)) (by kernel_rfl) (unhide HKB _ (unhide HBL).drew) (fun hH => ?_)
        refine takeH11 (i := 0) (d := some 27) (v := .pointer (some ⟨w1.heap.size, 0, none⟩)) rfl rfl (by kernel_rfl) (by kernel_rfl) (by kernel_rfl) (fun _ _ _ h => h) (Or.inl ⟨by rfl, fun w9 hSw => ?_⟩) hH ?_
        · (try dsimp only at hSw); go_simp
        conv => arg 8; simp only [Act.put, List.setIfInBounds_toArray, List.set_cons_zero, List.set_cons_succ]
        refine takeH11 (i := 1) (d := some 28) (v := .pointer (some ⟨w1.heap.size, 0, none⟩)) rfl rfl (by kernel_rfl) (by kernel_rfl) (by kernel_rfl) (fun _ _ _ h => h) (Or.inl ⟨by rfl, fun w9 hSw => ?_⟩) hH ?_
        · (try dsimp only at hSw); go_simp
        conv => arg 8; simp only [Act.put, List.setIfInBounds_toArray, List.set_cons_zero, List.set_cons_succ]
        refine takeH11 (i := 3) (d := some 30) (v := .int .i64 d) rfl rfl (by kernel_rfl) (by kernel_rfl) (by kernel_rfl) (fun _ _ _ h => h) (Or.inl ⟨by rfl, fun w9 hSw => ?_⟩) hH ?_
        · (try dsimp only at hSw); go_simp
        conv => arg 8; simp only [Act.put, List.setIfInBounds_toArray, List.set_cons_zero, List.set_cons_succ]
        refine takeH11 (i := 4) (d := some 31) (v := .pointer (some ⟨w.heap.size, 0, none⟩)) rfl rfl (by kernel_rfl) (by kernel_rfl) (by kernel_rfl) (fun _ _ _ h => h) (Or.inl ⟨by rfl, fun w9 hSw => ?_⟩) hH ?_
        · (try dsimp only at hSw); go_simp
        conv => arg 8; simp only [Act.put, List.setIfInBounds_toArray, List.set_cons_zero, List.set_cons_succ]
        refine takeH11 (i := 5) (d := some 32) (v := .slice (some ⟨ib, io, none⟩) s.ids.length ic) rfl rfl (by kernel_rfl) (by kernel_rfl) (by kernel_rfl) (fun _ _ _ h => h) (Or.inl ⟨by rfl, fun w9 hSw => ?_⟩) hH ?_
        · (try dsimp only at hSw); go_simp
        conv => arg 8; simp only [Act.put, List.setIfInBounds_toArray, List.set_cons_zero, List.set_cons_succ]
        refine takeH11 (i := 6) (d := some 33) (v := .int .i64 d) rfl rfl (by kernel_rfl) (by kernel_rfl) (by kernel_rfl) (fun _ _ _ h => h) (Or.inl ⟨by rfl, fun w9 hSw => ?_⟩) hH ?_
        · (try dsimp only at hSw); go_simp
        conv => arg 8; simp only [Act.put, List.setIfInBounds_toArray, List.set_cons_zero, List.set_cons_succ]
        refine takeH11 (i := 7) (d := some 34) (v := .pointer (some ⟨ib, io + d, none⟩)) rfl rfl (by kernel_rfl) (by kernel_rfl) (by kernel_rfl) (fun _ _ _ h => h) (Or.inl ⟨by rfl, fun w9 hSw => ?_⟩) hH ?_
        · (try dsimp only at hSw); go_simp
        conv => arg 8; simp only [Act.put, List.setIfInBounds_toArray, List.set_cons_zero, List.set_cons_succ]
        refine takeH11 (i := 8) (d := some 35) (v := .string x) rfl rfl (by kernel_rfl) (by kernel_rfl) (by kernel_rfl) (fun _ _ _ h => h) (Or.inl ⟨by rfl, fun w9 hSw => ?_⟩) hH ?_
        · (try dsimp only at hSw); go_simp
        conv => arg 8; simp only [Act.put, List.setIfInBounds_toArray, List.set_cons_zero, List.set_cons_succ]
        refine takeH11 (i := 9) (d := some 36) (v := .pointer (some ⟨w.heap.size, 1, none⟩)) rfl rfl (by kernel_rfl) (by kernel_rfl) (by kernel_rfl) (fun _ _ _ h => h) (Or.inl ⟨by rfl, fun w9 hSw => ?_⟩) hH ?_
        · (try dsimp only at hSw); go_simp
        conv => arg 8; simp only [Act.put, List.setIfInBounds_toArray, List.set_cons_zero, List.set_cons_succ]
        refine takeH11 (i := 10) (d := some 37) (v := .slice (some ⟨kb, ko, none⟩) s.keys.length kc) rfl rfl (by kernel_rfl) (by kernel_rfl) (by kernel_rfl) (fun _ _ _ h => h) (Or.inl ⟨by rfl, fun w9 hSw => ?_⟩) hH ?_
        · (try dsimp only at hSw); go_simp
        conv => arg 8; simp only [Act.put, List.setIfInBounds_toArray, List.set_cons_zero, List.set_cons_succ]
        refine takeH11 (i := 11) (d := some 38) (v := .int .i64 d) rfl rfl (by kernel_rfl) (by kernel_rfl) (by kernel_rfl) (fun _ _ _ h => h) (Or.inl ⟨by rfl, fun w9 hSw => ?_⟩) hH ?_
        · (try dsimp only at hSw); go_simp
        conv => arg 8; simp only [Act.put, List.setIfInBounds_toArray, List.set_cons_zero, List.set_cons_succ]
        refine takeH11 (i := 12) (d := some 39) (v := .pointer (some ⟨kb, ko + d, none⟩)) rfl rfl (by kernel_rfl) (by kernel_rfl) (by kernel_rfl) (fun _ _ _ h => h) (Or.inl ⟨by rfl, fun w9 hSw => ?_⟩) hH ?_
        · (try dsimp only at hSw); go_simp
        conv => arg 8; simp only [Act.put, List.setIfInBounds_toArray, List.set_cons_zero, List.set_cons_succ]
        refine takeH11 (i := 13) (d := some 40) (v := .int .i64 y) rfl rfl (by kernel_rfl) (by kernel_rfl) (by kernel_rfl) (fun _ _ _ h => h) (Or.inl ⟨by rfl, fun w9 hSw => ?_⟩) hH ?_
        · (try dsimp only at hSw); go_simp
        conv => arg 8; simp only [Act.put, List.setIfInBounds_toArray, List.set_cons_zero, List.set_cons_succ]
        refine takeH11 (i := 14) (d := some 41) (v := .agg #[.string x, .int .i64 y, .slice none 0 0]) rfl rfl (by kernel_rfl) (by kernel_rfl) (by kernel_rfl) (fun _ _ _ h => h) (Or.inl ⟨by rfl, fun w9 hSw => ?_⟩) hH ?_
        · (try dsimp only at hSw); go_simp
        conv => arg 8; simp only [Act.put, List.setIfInBounds_toArray, List.set_cons_zero, List.set_cons_succ]
        refine takeH11 (i := 15) (d := some 42) (v := .agg #[.int .i64 d, .string x, .int .i64 y, .slice none 0 0]) rfl rfl (by kernel_rfl) (by kernel_rfl) (by kernel_rfl) (fun _ _ _ h => h) (Or.inl ⟨by rfl, fun w9 hSw => ?_⟩) hH ?_
        · (try dsimp only at hSw); go_simp
        conv => arg 8; simp only [Act.put, List.setIfInBounds_toArray, List.set_cons_zero, List.set_cons_succ]
        refine wpAnyH_ready (rs := [2, 16]) (by kernel_rfl) (by simp) ?_
        refine AllReadyH.cons rfl (fun K hK => ?_) ?_
        · skip
          go_simp
          refine hK.out _ _ (hH) (fun hH9 => ?_)
          clear hH
          have hH := hH9
          clear hH9 hK K
          try (conv => arg 8; simp only [Act.put, List.setIfInBounds_toArray, List.set_cons_zero, List.set_cons_succ])
          refine wpAnyH_ready (rs := [16]) (by kernel_rfl) (by simp) ?_
          refine AllReadyH.cons rfl (fun K hK => ?_) AllReadyH.nil
          go_simp
          refine hK.out _ _ (unhide HKB _ BA) (fun hH9 => ?_)
          clear hH
          have hH := hH9
          clear hH9 hK K
          try (conv => arg 8; simp only [Act.put, List.setIfInBounds_toArray, List.set_cons_zero, List.set_cons_succ])
          refine wpAnyH_ready (rs := [17]) (by kernel_rfl) (by simp) ?_
          refine AllReadyH.cons rfl (fun K hK => ?_) AllReadyH.nil
          refine step_append_lies _ (by rfl) _ _ _ (by rfl) W2.heap.size 94 i0 _ 4 56 Tryz.underlying85 hi hz0 hz1 hz2 rfl (by omega) (.slice la L.length lc) _ _ (by rfl) ((ORW.alloc _).drew) ⟨wr.heap.size, 0, none⟩ 1 1 [.int .i64 d, .string x, .int .i64 y, .slice none 0 0] (by rfl) (by rfl) (World.news_of_block (cs := #[.int .i64 d, .string x, .int .i64 y, .slice none 0 0]) (t := 94) (fr := (0, 0)) (heap_alloc_new wr _)) (by simp [Value.oneCell']) (by omega) (by unfold maxLen; omega) (by omega) (by have := unhide HSZ; simp; omega) (wr.heap.size + 1) (by simp) ?_
          intro g5 q5 w5 O5 g5' l5 lt5
          have B5 : Below w1.heap.size w1 w5 := BA.grown g5' (by simp; omega) (fun j hj => by have := (ORW.lt j hj).1; have := unhide HS2; omega)
          have s5 := (g5'.cell_far ⟨w1.heap.size, 0, none⟩ (by simp; omega) (Ne.symm hne)).trans (cell_keep s0 (below_alloc wr _).drew)
          have f5 := (g5'.frozen_far ⟨w1.heap.size, 0, none⟩ (by simp; omega) (Ne.symm hne)).trans (frozen_keep8 f0 (below_alloc wr _).drew hkz)
          refine hK.out _ _ (unhide HKB _ B5) (fun hH9 => ?_)
          clear hH
          have hH := hH9
          clear hH9 hK K
          try (conv => arg 8; simp only [Act.put, List.setIfInBounds_toArray, List.set_cons_zero, List.set_cons_succ])
          refine takeH11 (i := 18) (d := some 45) (v := .pointer (some ⟨w1.heap.size, 0, none⟩)) rfl rfl (by kernel_rfl) (by kernel_rfl) (by kernel_rfl) (fun _ _ _ h => h) (Or.inl ⟨by rfl, fun w9 hSw => ?_⟩) hH ?_
          · (try dsimp only at hSw); go_simp
          conv => arg 8; simp only [Act.put, List.setIfInBounds_toArray, List.set_cons_zero, List.set_cons_succ]
          refine takeH11 (i := 19) (d := some 46) (v := .pointer (some ⟨w1.heap.size, 0, none⟩)) rfl rfl (by kernel_rfl) (by kernel_rfl) (by kernel_rfl) (fun _ _ _ h => h) (Or.inl ⟨by rfl, fun w9 hSw => ?_⟩) hH ?_
          · (try dsimp only at hSw); go_simp
          conv => arg 8; simp only [Act.put, List.setIfInBounds_toArray, List.set_cons_zero, List.set_cons_succ]
          refine wpAnyH_ready (rs := [20]) (by kernel_rfl) (by simp) ?_
          refine AllReadyH.cons rfl (fun K hK => ?_) AllReadyH.nil
          go_simp
          refine hK.out _ _ (unhide HKB _ (B5.setCell (Nat.le_refl _) _)) (fun hH9 => ?_)
          clear hH
          have hH := hH9
          clear hH9 hK K
          try (conv => arg 8; simp only [Act.put, List.setIfInBounds_toArray, List.set_cons_zero, List.set_cons_succ])
          refine wpAnyH_done (by kernel_rfl) ?_ _
          have B6 : Below w1.heap.size w1 (w5.setCell ⟨w1.heap.size, 0, none⟩ (.slice (some ⟨g5, 0, none⟩) (L.length + 1) q5)) := B5.setCell (Nat.le_refl _) _
          have K5 := (g5'.block w1.heap.size (by simp; omega) (Ne.symm hne)).trans ((below_alloc wr _).drew.block w1.heap.size hkz)
          have K6 := hide (bset (K5.trans (unhide HK)) 0 (.slice (some ⟨g5, 0, none⟩) (L.length + 1) q5))
          have O6 := hide (own_set O5 (p := ⟨w1.heap.size, 0, none⟩) (fun k hk => by have := (O5.lt k hk).1; have := unhide HS2; simp only; omega) (.slice (some ⟨g5, 0, none⟩) (L.length + 1) q5))
          have Q5 := own_below (unhide HQ) (below_alloc wr (.cells #[.int .i64 d, .string x, .int .i64 y, .slice none 0 0] 94)).drew
          have Q6 := hide (own_set (World.ownsRow.kept Q5 g5' (own_apart Q5 ((ORW.alloc _).drew) (by decide))) (p := ⟨w1.heap.size, 0, none⟩) (fun k hk => by have := (Q5.lt k hk).1; have := unhide HS2; simp only; omega) (.slice (some ⟨g5, 0, none⟩) (L.length + 1) q5))
          clear O5 g5' l5 lt5 B5 s5 f5 K5 Q5 hH
          go_wp2
          go_roundw
          case rel => exact ⟨k + 1, L ++ [G.doc s d], some ⟨g5, 0, none⟩, q5, by omega, by go_num, hide (by rw [unhide HST, ← unhide HL]; simp), by simp; omega, hide (by rw [List.length_append]; simpa using unhide K6), by rw [List.flatMap_append, List.length_append]; simpa [unhide HDC] using unhide O6, unhide Q6, B6⟩
          case measure => simp [intOf]; omega
        refine AllReadyH.cons rfl (fun K hK => ?_) AllReadyH.nil
        go_simp
        refine hK.out _ _ (unhide HKB _ BA) (fun hH9 => ?_)
        clear hH
        have hH := hH9
        clear hH9 hK K
        try (conv => arg 8; simp only [Act.put, List.setIfInBounds_toArray, List.set_cons_zero, List.set_cons_succ])
        refine wpAnyH_ready (rs := [2]) (by kernel_rfl) (by simp) ?_
        refine AllReadyH.cons rfl (fun K hK => ?_) AllReadyH.nil
        go_simp
        refine hK.out _ _ (hH) (fun hH9 => ?_)
        clear hH
        have hH := hH9
        clear hH9 hK K
        try (conv => arg 8; simp only [Act.put, List.setIfInBounds_toArray, List.set_cons_zero, List.set_cons_succ])
        refine wpAnyH_ready (rs := [17]) (by kernel_rfl) (by simp) ?_
        refine AllReadyH.cons rfl (fun K hK => ?_) AllReadyH.nil
        refine step_append_lies _ (by rfl) _ _ _ (by rfl) W2.heap.size 94 i0 _ 4 56 Tryz.underlying85 hi hz0 hz1 hz2 rfl (by omega) (.slice la L.length lc) _ _ (by rfl) ((ORW.alloc _).drew) ⟨wr.heap.size, 0, none⟩ 1 1 [.int .i64 d, .string x, .int .i64 y, .slice none 0 0] (by rfl) (by rfl) (World.news_of_block (cs := #[.int .i64 d, .string x, .int .i64 y, .slice none 0 0]) (t := 94) (fr := (0, 0)) (heap_alloc_new wr _)) (by simp [Value.oneCell']) (by omega) (by unfold maxLen; omega) (by omega) (by have := unhide HSZ; simp; omega) (wr.heap.size + 1) (by simp) ?_
        intro g5 q5 w5 O5 g5' l5 lt5
        have B5 : Below w1.heap.size w1 w5 := BA.grown g5' (by simp; omega) (fun j hj => by have := (ORW.lt j hj).1; have := unhide HS2; omega)
        have s5 := (g5'.cell_far ⟨w1.heap.size, 0, none⟩ (by simp; omega) (Ne.symm hne)).trans (cell_keep s0 (below_alloc wr _).drew)
        have f5 := (g5'.frozen_far ⟨w1.heap.size, 0, none⟩ (by simp; omega) (Ne.symm hne)).trans (frozen_keep8 f0 (below_alloc wr _).drew hkz)
        refine hK.out _ _ (unhide HKB _ B5) (fun hH9 => ?_)
        clear hH
        have hH := hH9
        clear hH9 hK K
        try (conv => arg 8; simp only [Act.put, List.setIfInBounds_toArray, List.set_cons_zero, List.set_cons_succ])
        refine takeH11 (i := 18) (d := some 45) (v := .pointer (some ⟨w1.heap.size, 0, none⟩)) rfl rfl (by kernel_rfl) (by kernel_rfl) (by kernel_rfl) (fun _ _ _ h => h) (Or.inl ⟨by rfl, fun w9 hSw => ?_⟩) hH ?_
        · (try dsimp only at hSw); go_simp
        conv => arg 8; simp only [Act.put, List.setIfInBounds_toArray, List.set_cons_zero, List.set_cons_succ]
        refine takeH11 (i := 19) (d := some 46) (v := .pointer (some ⟨w1.heap.size, 0, none⟩)) rfl rfl (by kernel_rfl) (by kernel_rfl) (by kernel_rfl) (fun _ _ _ h => h) (Or.inl ⟨by rfl, fun w9 hSw => ?_⟩) hH ?_
        · (try dsimp only at hSw); go_simp
        conv => arg 8; simp only [Act.put, List.setIfInBounds_toArray, List.set_cons_zero, List.set_cons_succ]
        refine wpAnyH_ready (rs := [20]) (by kernel_rfl) (by simp) ?_
        refine AllReadyH.cons rfl (fun K hK => ?_) AllReadyH.nil
        go_simp
        refine hK.out _ _ (unhide HKB _ (B5.setCell (Nat.le_refl _) _)) (fun hH9 => ?_)
        clear hH
        have hH := hH9
        clear hH9 hK K
        try (conv => arg 8; simp only [Act.put, List.setIfInBounds_toArray, List.set_cons_zero, List.set_cons_succ])
        refine wpAnyH_done (by kernel_rfl) ?_ _
        have B6 : Below w1.heap.size w1 (w5.setCell ⟨w1.heap.size, 0, none⟩ (.slice (some ⟨g5, 0, none⟩) (L.length + 1) q5)) := B5.setCell (Nat.le_refl _) _
        have K5 := (g5'.block w1.heap.size (by simp; omega) (Ne.symm hne)).trans ((below_alloc wr _).drew.block w1.heap.size hkz)
        have K6 := hide (bset (K5.trans (unhide HK)) 0 (.slice (some ⟨g5, 0, none⟩) (L.length + 1) q5))
        have O6 := hide (own_set O5 (p := ⟨w1.heap.size, 0, none⟩) (fun k hk => by have := (O5.lt k hk).1; have := unhide HS2; simp only; omega) (.slice (some ⟨g5, 0, none⟩) (L.length + 1) q5))
        have Q5 := own_below (unhide HQ) (below_alloc wr (.cells #[.int .i64 d, .string x, .int .i64 y, .slice none 0 0] 94)).drew
        have Q6 := hide (own_set (World.ownsRow.kept Q5 g5' (own_apart Q5 ((ORW.alloc _).drew) (by decide))) (p := ⟨w1.heap.size, 0, none⟩) (fun k hk => by have := (Q5.lt k hk).1; have := unhide HS2; simp only; omega) (.slice (some ⟨g5, 0, none⟩) (L.length + 1) q5))
        clear O5 g5' l5 lt5 B5 s5 f5 K5 Q5 hH
        go_wp2
        go_roundw
        case rel => exact ⟨k + 1, L ++ [G.doc s d], some ⟨g5, 0, none⟩, q5, by omega, by go_num, hide (by rw [unhide HST, ← unhide HL]; simp), by simp; omega, hide (by rw [List.length_append]; simpa using unhide K6), by rw [List.flatMap_append, List.length_append]; simpa [unhide HDC] using unhide O6, unhide Q6, B6⟩
        case measure => simp [intOf]; omega
    · have hw2 : w.heap.size + 1 < W2.heap.size := by have := unhide HS2; omega
      have HO := hide (own_mono (own_set (own_set hown (p := ⟨w.heap.size + 1, 0, none⟩) (fun k hk => by have := (hown.lt k hk).1; simp only; omega) (.slice la L.length lc)) (p := ⟨w.heap.size + 1, 1, none⟩) (fun k hk => by have := (hown.lt k hk).1; simp only; omega) (.slice (some ⟨tb, 0, none⟩) s.ids.length s.ids.length)) (show w.heap.size ≤ W2.heap.size by omega))
      have HLL : Hid (L = G.wk so s a) := by
        show _ = _
        rw [unhide HL]
        exact wkK_all (by have := unhide HLI; rw [← this, List.length_map] at hlt; omega)
      have OT2 := own_below (unhide HOT) hbel
      have HT := hide (own_mono (own_set (own_set OT2 (p := ⟨w.heap.size + 1, 0, none⟩) (fun k hk => by have := (OT2.lt k hk).1; simp only; omega) (.slice la L.length lc)) (p := ⟨w.heap.size + 1, 1, none⟩) (fun k hk => by have := (OT2.lt k hk).1; simp only; omega) (.slice (some ⟨tb, 0, none⟩) s.ids.length s.ids.length)) (show w.heap.size ≤ tb by omega))
      have RR := (hbel.block (w.heap.size + 1) (by omega)).trans (unhide HR1)
      have s0 := box_cell (unhide HK) (j := 0) rfl
      have s1 := box_cell (unhide HK) (j := 1) rfl
      have r0 := box_cell RR (j := 0) rfl
      have r1 := box_cell RR (j := 1) rfl
      have f0 := bfro RR 0
      have f1 := bfro RR 1
      have BE := (unhide HBB).trans (hbel.mono (unhide HBB).size)
      clear hown hord HL RR OT2
      go_wp2
      refine bodyPost_ret (v := .agg #[.slice la L.length lc, .slice (some ⟨tb, 0, none⟩) s.ids.length s.ids.length]) (by simp [results, Tryz.results49, go_sem, r0, r1]) rfl ?_
      rw [← unhide HLL]
      exact ⟨la, lc, tb, rfl, unhide HO, unhide HT, (BE.setCell (by simp) _).setCell (by simp) _⟩
end Go.Proofs.YtnahjaloodeicaaGreat
