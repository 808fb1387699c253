/-
  Texts put together: Prop12, Api12.
-/
import Derived.Test.YtfniphaehggcgaaQ16
import Derived.Test.YtfniphaehggcgaaQ18
/-
  The contract of propose, whatever policy a number has.
-/
namespace Go.Proofs.Ytfniphaehggcgaa
set_option maxRecDepth 100000
open Go.RowKit Go.Deep

/-- One more list of numbers, in a row of the call's own. -/
theorem LiO.snoc {B : Nat} {w w' : World} {v v' tk : Value} {us : List Pts} {ls : List (List Int)} {s : Pts} {l : List Int} (h1 : w.ownsRow B 47 1 v us.length (us.map sv)) (h2 : Gg Il 3 w us ls) (h3 : ∀ s ∈ us, ∀ g, (sv s).ownBlock = some g → some g ≠ tk.ownBlock)
    (hs : Il w (sv s) l) (ht : Ty12 3 w (sv s)) (hk : ∀ g, (sv s).ownBlock = some g → some g ≠ tk.ownBlock)
    (ho : w'.ownsRow B 47 1 v' (us ++ [s]).length ((us ++ [s]).map sv)) (hg : w.grownBy w' v.ownBlock) : LiO B w' v' tk (ls ++ [l]) := by
  refine ⟨us ++ [s], ho, (Gg.grown (R := Il) (fun h hg hne => Gl.keep12 h hg hne) h2 hg (fun x hx => (h2.ty hx).apart h1 (by decide))).snoc (Gl.keep12 hs hg (ht.apart h1 (by decide))) (ht.grown hg (ht.apart h1 (by decide))), fun x hx g hxg => ?_⟩
  rcases List.mem_append.1 hx with hx | hx
  · exact h3 x hx g hxg
  · simp at hx
    subst hx
    exact hk g hxg

/-- The row of what was taken grows. -/
theorem LiO.taken {B : Nat} {w w' : World} {v tk tk' : Value} {ls : List (List Int)} {T : List Int} (h : LiO B w v tk ls) (ht : w.ownsRow B 3 1 tk T.length (T.map (Value.int .i64))) (hg : w.grownBy w' tk.ownBlock) (hk : ∀ k, tk'.ownBlock = some k → tk.ownBlock = some k ∨ k = w.heap.size) : LiO B w' v tk' ls := by
  obtain ⟨us, h1, h2, h3⟩ := h
  refine ⟨us, h1.kept hg (own_apart h1 ht (by decide)), Gg.grown (R := Il) (fun h hg hne => Gl.keep12 h hg hne) h2 hg h3, fun s hs g hg' e => ?_⟩
  rcases hk g e.symm with h9 | h9
  · exact h3 s hs g hg' h9.symm
  · obtain ⟨cs, fr, hb⟩ := h2.ty hs g hg'
    have := (Array.getElem?_eq_some_iff.1 hb).1
    omega

theorem gens_len12 {G : List (List Sz)} (k : Nat) : ((G.take k).map Z.gens).length ≤ G.length := by simp; omega
theorem flat_take12 {G : List (List Sz)} {k : Nat} {g : List Sz} (h : G[k]? = some g) : ((G.take (k + 1)).map Z.gens).flatten = ((G.take k).map Z.gens).flatten ++ Z.gens g := by
  rw [take_snoc12 h]
  simp
theorem map_take12 {G : List (List Sz)} {k : Nat} {g : List Sz} (h : G[k]? = some g) : (G.take (k + 1)).map Z.gens = (G.take k).map Z.gens ++ [Z.gens g] := by
  rw [take_snoc12 h]
  simp
theorem flat_len12 {n : Nat} : ∀ {G : List (List Sz)}, (∀ g ∈ G, g.length ≤ n) → ((G.map Z.gens).flatten).length ≤ G.length * n
  | [], _ => by simp
  | g :: G, h => by
    have h1 := flat_len12 (G := G) (n := n) (fun x hx => h x (by simp [hx]))
    have h2 := h g (by simp)
    simp only [List.map_cons, List.flatten_cons, List.length_append, List.length_cons, Nat.add_mul, Nat.one_mul]
    have : (Z.gens g).length = g.length := by simp [Z.gens]
    omega

set_option maxRecDepth 100000 in
set_option maxHeartbeats 8000000 in
theorem propose_gen (num : Int) (fm ft fa : Nat) (egm : ∀ args w, (callFunc fm args).run Try.prog w = .ok (.enter fm args) w) (egt : ∀ args w, (callFunc ft args).run Try.prog w = .ok (.enter ft args) w) (ega : ∀ args w, (callFunc fa args).run Try.prog w = .ok (.enter fa args) w)
    (half mb : Bool) (G : List (List Sz)) (v : Value) (L : List Sz) (per most segs : Int) (w : World) (h : Zl w v L)
    (hN : ∀ w1, Calls Try.prog 45 #[.int .i64 num] w1 fun e w2 => e = .returned (polv fm ft fa) ∧ Below w1.heap.size w1 w2)
    (hM : ∀ w1, Calls Try.prog fm #[bv per most segs] w1 fun e w2 => e = .returned (.bool mb) ∧ Below w1.heap.size w1 w2)
    (hT : mb = true → Z.Ready L → ∀ w1, Zl w1 v L → Calls Try.prog ft #[v, bv per most segs] w1 fun e w2 => ∃ v', e = .returned v' ∧ Lz w2 v' G ∧ Below w1.heap.size w1 w2)
    (hA : ∀ s, Z.Ok s → ∀ w1, Calls Try.prog fa #[zv s] w1 fun e w2 => e = .returned (.bool (Z.crit half s)) ∧ Below w1.heap.size w1 w2)
    (hG1 : G.length ≤ 1000) (hG2 : ∀ g ∈ G, 0 < g.length ∧ g.length ≤ 1000) (r : Bool) (hr : r = true ↔ Z.Ready L) :
    Calls Try.prog 29 #[v, .int .i64 num, bv per most segs] w fun e w' => ∃ v', e = .returned v' ∧ Tl w' v' (if (r && mb) = true then Z.prop half L G else []) ∧ Below w.heap.size w w' := by
  obtain ⟨i0, hi, hz0, hz1, hz2⟩ := info_parts Try.infoLI
  obtain ⟨j0, hj, hj0, hj1, hj2⟩ := info_parts Try.infoI10
  unfold polv fnv at hN
  unfold bv at hM hT
  unfold bv
  obtain ⟨W, hW⟩ : ∃ W, W = w.alloc (.cells #[.int .i64 per, .int .i64 most, .int .i64 segs] 52) := ⟨_, rfl⟩
  have BW : Below w.heap.size w W := by rw [hW]; exact below_alloc _ _
  have b0 : W.cell? ⟨w.heap.size, 0, none⟩ = some (.int .i64 per) := by rw [hW]; exact box_cell (heap_alloc_new w _) rfl
  have b1 : W.cell? ⟨w.heap.size, 1, none⟩ = some (.int .i64 most) := by rw [hW]; exact box_cell (heap_alloc_new w _) rfl
  have b2 : W.cell? ⟨w.heap.size, 2, none⟩ = some (.int .i64 segs) := by rw [hW]; exact box_cell (heap_alloc_new w _) rfl
  have HV := hide h
  obtain ⟨a, cap, rfl, -⟩ := h.open
  have CM := fun w1 (hb : Below w.heap.size w w1) => zmay_any _ L w1 (h.below hb) r hr
  have HT := hide hT
  have HA := hide hA
  have HG2 := hide hG2
  have HR := hide hr
  have HW := hide hW
  clear hW h hT hA hG2 hr
  go_enter Try.func29, Try.ntmps29
  go_wp2_with fail
  rw [← unhide HW]
  refine (hN _).mono ?_
  rintro e w1 ⟨rfl, B1⟩
  obtain ⟨w2, hw2⟩ : ∃ w2, w2 = w1.alloc (.cells #[.func (.func fm) #[] #[], .func (.func ft) #[] #[], .func (.func fa) #[] #[]] 66) := ⟨_, rfl⟩
  have B12 : Below W.heap.size W w2 := by rw [hw2]; exact below_all B1 _
  have BB2 := below_trans' BW B12
  have p0 : w2.cell? ⟨w1.heap.size, 0, none⟩ = some (.func (.func fm) #[] #[]) := by rw [hw2]; exact box_cell (heap_alloc_new w1 _) rfl
  have p1 : w2.cell? ⟨w1.heap.size, 1, none⟩ = some (.func (.func ft) #[] #[]) := by rw [hw2]; exact box_cell (heap_alloc_new w1 _) rfl
  have p2 : w2.cell? ⟨w1.heap.size, 2, none⟩ = some (.func (.func fa) #[] #[]) := by rw [hw2]; exact box_cell (heap_alloc_new w1 _) rfl
  have b0 := cell_keep b0 B12
  have b1 := cell_keep b1 B12
  have b2 := cell_keep b2 B12
  have HW2 := hide hw2
  clear B1 B12 hw2 hN BW
  go_wp2_with fail
  rw [← unhide HW2]
  refine (CM _ BB2).mono ?_
  rintro e w3 ⟨rfl, B3⟩
  have BB3 := below_trans' BB2 B3
  have b0 := cell_keep b0 B3
  have b1 := cell_keep b1 B3
  have b2 := cell_keep b2 B3
  have p0 := cell_keep p0 B3
  have p1 := cell_keep p1 B3
  have p2 := cell_keep p2 B3
  clear B3 CM BB2
  cases r with
  | false =>
    go_wp2
    go_ret
    exact ⟨_, rfl, (LiO.nil 0 _ (.slice none 0 0)).tl, BB3⟩
  | true =>
    have hRdy := (unhide HR).1 rfl
    go_wp2_with fail
    refine (hM _).mono ?_
    rintro e w4 ⟨rfl, B4⟩
    have BB4 := below_trans' BB3 B4
    have b0 := cell_keep b0 B4
    have b1 := cell_keep b1 B4
    have b2 := cell_keep b2 B4
    have p1 := cell_keep p1 B4
    have p2 := cell_keep p2 B4
    clear B4 BB3 hM p0
    cases mb with
    | false =>
      go_wp2
      go_ret
      exact ⟨_, rfl, (LiO.nil 0 _ (.slice none 0 0)).tl, BB4⟩
    | true =>
      have CT := unhide HT rfl hRdy w4 ((unhide HV).below BB4)
      have HRD := hide hRdy
      have hll := hRdy.1
      clear hRdy
      go_wp2_with fail
      refine CT.mono ?_
      rintro e w5 ⟨gv, rfl, LG5, B5⟩
      have BB5 := below_trans' BB4 B5
      have p2 := cell_keep p2 B5
      obtain ⟨ga, gcap, rfl, hg1, hg2, -⟩ := LG5.at
      have HLG := hide LG5
      clear B5 BB4 b0 b1 b2 p1 CT LG5
      have hs5 := BB5.size
      go_wp2
      go_loopw [8, 9, 32] (fun pv tv kv wr => ∃ (k : Nat) (T : List Int), k ≤ G.length ∧ kv = .int .i64 k ∧ T.length ≤ k * 1000 ∧ Hid (T = ((G.take k).map Z.gens).flatten) ∧ Hid (LiO w5.heap.size wr pv tv ((G.take k).map Z.gens)) ∧ Hid (wr.ownsRow w5.heap.size 3 1 tv T.length (T.map (Value.int .i64))) ∧ Below w5.heap.size w5 wr) (fun _ _ kv _ => G.length - (intOf kv).toNat)
      case atStart => exact ⟨0, [], Nat.zero_le _, rfl, by simp, rfl, LiO.nil _ _ _, World.ownsRow_nil _ _ _ _, Below.refl _ _⟩
      case round =>
        obtain ⟨k, T, hk, rfl, hTl, HTe, HLI, HTO, hbel⟩ := hrel
        by_cases hlt : k < G.length
        · obtain ⟨a', c', hv', -, -, ho⟩ := (unhide HLG).at
          simp only [Value.slice.injEq, true_and] at hv'
          obtain ⟨rfl, rfl⟩ := hv'
          obtain ⟨b, off, rfl, hb, hc⟩ := ho (by omega)
          obtain ⟨g, hx⟩ : ∃ x, G[k]? = some x := ⟨G[k], List.getElem?_eq_getElem hlt⟩
          obtain ⟨xa, xc, d0, ZG⟩ := hc k g hx
          have c0 := (hbel.cell (p := ⟨b, off + k, none⟩) hb).trans d0
          obtain ⟨hg0, hg9⟩ := unhide HG2 g (List.mem_of_getElem? hx)
          have hgl : (Z.gens g).length = g.length := by simp [Z.gens]
          have HFT := hide (flat_take12 hx)
          have HMT := hide (map_take12 hx)
          have CG := fun w' (hb : Below w5.heap.size w5 w') => gens_any _ g w' (ZG.below hb) (by omega)
          obtain ⟨N, hN⟩ : ∃ N, Z.gens g = N := ⟨_, rfl⟩
          rw [hN] at CG hgl
          have hN0 : 0 < N.length := by omega
          have hN9 : N.length ≤ 1000 := by omega
          have HN := hide hN
          have hsr := hbel.size
          clear ho hc hx hN d0 hgl
          go_wp2_with fail
          refine (CG _ hbel).mono ?_
          rintro e w6 ⟨v6, rfl, O6, B6⟩
          have LI6 := (unhide HLI).below B6
          have TO6 := own_below (unhide HTO) B6
          have BB6 : Below w5.heap.size w5 w6 := hbel.trans (B6.mono hsr)
          have hT6 : ∀ q, v6.ownBlock = some q → some q ≠ u9.ownBlock := fun q hq e => by
            have h1 := (O6.lt q hq).1
            have h2 := ((unhide HTO).lt q e.symm).2
            omega
          have I6 : Il w6 v6 N := Gl.owned O6
          have T6 := Ty12.own O6
          obtain ⟨a6, c6, rfl, -⟩ := zl_spot O6
          obtain ⟨us, OU, GU, hU⟩ := LI6
          have hul : us.length ≤ 1000 := by have := GU.1; simp only [List.length_map, List.length_take] at this; omega
          have HGU := hide GU
          have HI6 := hide I6
          have HTT6 := hide T6
          have HTO6 := hide TO6
          have hs6 := BB6.size
          clear B6 O6 GU I6 T6 TO6 HLI HTO hbel
          go_wp2_with (first | (at_builtin; refine append_oneL (f := sv) rfl _ _ 27 rfl Try.underlying27 hi hz0 hz1 hz2 rfl sv_one12 (pre := us) (a6, N.length, c6) rfl rfl rfl OU (by omega) (by omega) (by omega) ?_; intro g7 c7 w7 O7 g7' l7; have B67 := BB6.grown g7' hs6 (fun j hj => (OU.lt j hj).1)) | fail)
          have LI7 := hide (LiO.snoc (s := (a6, N.length, c6)) OU (unhide HGU) hU (unhide HI6) (unhide HTT6) hT6 O7 g7')
          have TO7 := hide ((unhide HTO6).kept g7' (own_apart (unhide HTO6) OU (by decide)))
          clear O7 g7' l7 OU hU HGU HI6 HTT6 HTO6 hT6 BB6
          have hs7 := B67.size
          refine (CG _ B67).mono ?_
          rintro e w8 ⟨v8, rfl, O8, B8⟩
          have LI8 := hide ((unhide LI7).below B8)
          have TO8 := own_below (unhide TO7) B8
          have BB8 : Below w5.heap.size w5 w8 := B67.trans (B8.mono hs7)
          have I8 : Sl .i64 w8 v8 N := Sl.owned O8
          have hs8 := BB8.size
          obtain ⟨a8, c8, rfl, -⟩ := zl_spot O8
          have HI8 := hide I8
          have HO8 := hide TO8
          clear B8 O8 I8 LI7 TO7 CG B67
          go_wp2_with (first | (at_builtin; refine append_allL rfl _ _ 47 rfl Try.underlying47 hj hj0 hj1 hj2 rfl (B := w5.heap.size) (w0 := w5) (pre := T) (zs := N) rfl rfl (unhide HI8) hN0 TO8 BB8 hs8 (by omega) (by decide) ?_; intro v9 w9 O9 b9 g9' l9) | fail)
          have LI9 := LiO.taken (unhide LI8) (unhide HO8) g9' l9
          rw [← unhide HN, ← unhide HMT] at LI9
          have HLI9 := hide LI9
          have HO9 := hide O9
          have HTE : Hid (T ++ N = ((G.take (k + 1)).map Z.gens).flatten) := by show _ = _; rw [unhide HFT, ← unhide HTe, unhide HN]
          have hl9 : (T ++ N).length ≤ (k + 1) * 1000 := by rw [List.length_append]; omega
          clear LI9 O9 g9' l9 LI8 TO8 BB8 HI8 HO8
          go_roundw
          case rel => exact ⟨k + 1, T ++ N, by omega, by go_num, hl9, HTE, HLI9, HO9, b9⟩
          case measure => simp [intOf]; omega
        · have hkG : k = G.length := by omega
          subst hkG
          have hTe := unhide HTe
          have hLI := unhide HLI
          rw [List.take_length] at hTe hLI
          have HTE := hide hTe
          obtain ⟨D, hD⟩ : ∃ D, G.map Z.gens = D := ⟨_, rfl⟩
          rw [hD] at hLI
          have hDl : D.length ≤ 1000 := by rw [← hD]; simp; omega
          have HLI := hide hLI
          have HDD := hide hD
          have BBr : Below w.heap.size w wr := BB5.trans (hbel.mono (by omega))
          have ego : ∀ args w, (callFunc 46 args).run Try.prog w = .ok (.enter 46 args) w := enters_of Try.func46 (by kernel_rfl) rfl
          have CO := only_any 46 ego #[] Z.idle _ L wr ((unhide HV).below BBr) (by omega) (fun s _ w1 _ => idle_any s w1)
          obtain ⟨F, hF⟩ : ∃ F, L.filter Z.idle = F := ⟨_, rfl⟩
          have hFok : ∀ s ∈ F, Z.Ok s := fun s hs => (unhide HRD).2.1 s (by rw [← hF] at hs; exact (List.mem_filter.1 hs).1)
          have hFl : F.length ≤ 16 := by rw [← hF]; exact Nat.le_trans (List.length_filter_le _ _) hll
          rw [hF] at CO
          have HFF := hide hF
          have HOK := hide hFok
          have hsr := hbel.size
          clear hTe hLI hD hF ego hFok HTe BBr
          go_wp2_with fail
          refine CO.mono ?_
          rintro e w6 ⟨v6, rfl, O6, B6⟩
          have LI6 := hide ((unhide HLI).below B6)
          have TO6 := hide (own_below (unhide HTO) B6)
          have BB6 : Below w5.heap.size w5 w6 := hbel.trans (B6.mono hsr)
          have Z6 : Hid (Zl w6 v6 F ∧ Ty12 36 w6 v6) := ⟨Kl.owned encZ_len (by decide) O6, Ty12.own O6⟩
          obtain ⟨a6, c6, rfl, -⟩ := zl_spot O6
          rename World => w99
          clear O6 B6 CO HLI HTO hbel
          go_wp2
          go_loopw [8, 49] (fun pv kv wr => ∃ (k : Nat) (E : List (List Int)), k ≤ F.length ∧ kv = .int .i64 k ∧ E.length ≤ 1000 + k ∧ Hid (E = D ++ ((F.take k).filter (Z.one half T)).map fun s => [s.gen]) ∧ Hid (LiO w5.heap.size wr pv u9 E) ∧ Hid (wr.ownsRow w5.heap.size 3 1 u9 T.length (T.map (Value.int .i64))) ∧ Hid (Zl wr (.slice a6 F.length c6) F ∧ Ty12 36 wr (.slice a6 F.length c6)) ∧ Below w5.heap.size w5 wr) (fun _ kv _ => F.length - (intOf kv).toNat)
          case atStart => exact ⟨0, D, Nat.zero_le _, rfl, by omega, by (show _ = _; simp), LI6, TO6, Z6, BB6⟩
          case round =>
            clear LI6 TO6 Z6 BB6
            obtain ⟨k, E, hk, rfl, hEl, HE, HLI, HTO, HZ, hbel⟩ := hrel
            by_cases hlt : k < F.length
            · obtain ⟨A, C, hAC, -, -, -, ho⟩ := (unhide HZ).1.open
              simp only [Value.slice.injEq, true_and] at hAC
              obtain ⟨rfl, rfl⟩ := hAC
              obtain ⟨b, off, rfl, hb, hc⟩ := ho (by omega)
              obtain ⟨s, hx⟩ : ∃ x, F[k]? = some x := ⟨F[k], List.getElem?_eq_getElem hlt⟩
              obtain ⟨c0, c1, c2, c3⟩ := hc k s hx
              have HS := hide (take_snoc12 hx)
              obtain ⟨W8, hW8⟩ : ∃ W8, W8 = wr.alloc (.cells #[.int .i64 s.gen, .int .i64 s.docs, .int .i64 s.dead, .bool s.busy] 36) := ⟨_, rfl⟩
              have BW8 : Below wr.heap.size wr W8 := by rw [hW8]; exact below_alloc _ _
              obtain ⟨d0, d1, d2, d3⟩ := box4 (s := s) (w := W8) (g := wr.heap.size) (fr := (0, 0)) (T := 36) (by rw [hW8]; exact heap_alloc_new wr _)
              have p8 := cell_keep (cell_keep p2 hbel) BW8
              have hq1 : w1.heap.size ≠ wr.heap.size := by have h1 := World.block_lt_of_cell? w5 _ p2; have h2 := hbel.size; simp only at h1; omega
              have CA := fun w' => unhide HA s (unhide HOK s (List.mem_of_getElem? hx)) w'
              unfold zv at CA
              have LI8 := hide ((unhide HLI).below BW8)
              have TO8 := hide (own_below (unhide HTO) BW8)
              have Z8 : Hid (Zl W8 (.slice (some ⟨b, off, none⟩) F.length c6) F ∧ Ty12 36 W8 (.slice (some ⟨b, off, none⟩) F.length c6)) := ⟨(unhide HZ).1.below BW8, (unhide HZ).2.below BW8⟩
              have hsr2 := hbel.size
              have BB8 : Below w5.heap.size w5 W8 := hbel.trans (BW8.mono hsr2)
              rw [hW8] at p8
              have HW8 := hide hW8
              clear ho hc hx hW8 HLI HTO HZ BW8 hbel
              cases hcr : Z.crit half s with
              | false =>
                have HEE : Hid (E = D ++ ((F.take (k + 1)).filter (Z.one half T)).map fun s => [s.gen]) := by
                  show _ = _
                  rw [unhide HS, List.filter_append, unhide HE]
                  simp [Z.one, hcr]
                rw [hcr] at CA
                clear hcr
                go_wp2_with fail
                rw [← unhide HW8]
                refine (CA _).mono ?_
                rintro e w7 ⟨rfl, B7⟩
                have LI7 := hide ((unhide LI8).below B7)
                have TO7 := hide (own_below (unhide TO8) B7)
                have Z7 : Hid (Zl w7 (.slice (some ⟨b, off, none⟩) F.length c6) F ∧ Ty12 36 w7 (.slice (some ⟨b, off, none⟩) F.length c6)) := ⟨(unhide Z8).1.below B7, (unhide Z8).2.below B7⟩
                have BB7 : Below w5.heap.size w5 w7 := BB8.trans (B7.mono BB8.size)
                clear B7 LI8 TO8 Z8 BB8 CA d0 d1 d2 d3 c0 c1 c2 c3
                go_wp2
                go_roundw
                case rel => exact ⟨k + 1, E, by omega, by go_num, by omega, HEE, LI7, TO7, Z7, BB7⟩
                case measure => simp [intOf]; omega
              | true =>
                rw [hcr] at CA
                by_cases hm : s.gen ∈ T
                · have HEE : Hid (E = D ++ ((F.take (k + 1)).filter (Z.one half T)).map fun s => [s.gen]) := by
                    show _ = _
                    rw [unhide HS, List.filter_append, unhide HE]
                    simp [Z.one, hm]
                  have CC := fun w' (h : Il w' u9 T) => zcontains_any u9 T s.gen w' h (by omega)
                  simp only [hm, decide_true] at CC
                  clear hcr hm
                  go_wp2_with fail
                  rw [← unhide HW8]
                  refine (CA _).mono ?_
                  rintro e w7 ⟨rfl, B7⟩
                  have LI7 := hide ((unhide LI8).below B7)
                  have TO7 := hide (own_below (unhide TO8) B7)
                  have Z7 : Hid (Zl w7 (.slice (some ⟨b, off, none⟩) F.length c6) F ∧ Ty12 36 w7 (.slice (some ⟨b, off, none⟩) F.length c6)) := ⟨(unhide Z8).1.below B7, (unhide Z8).2.below B7⟩
                  have BB7 : Below w5.heap.size w5 w7 := BB8.trans (B7.mono BB8.size)
                  have d0 := cell_keep d0 B7
                  have CC7 := CC w7 (Gl.owned (unhide TO7))
                  clear B7 LI8 TO8 Z8 BB8 CA d1 d2 d3 c0 c1 c2 c3 CC
                  go_wp2_with fail
                  refine CC7.mono ?_
                  rintro e w' ⟨rfl, rfl⟩
                  clear CC7
                  go_wp2
                  go_roundw
                  case rel => exact ⟨k + 1, E, by omega, by go_num, by omega, HEE, LI7, TO7, Z7, BB7⟩
                  case measure => simp [intOf]; omega
                · have HEE : Hid (E ++ [[s.gen]] = D ++ ((F.take (k + 1)).filter (Z.one half T)).map fun s => [s.gen]) := by
                    show _ = _
                    rw [unhide HS, List.filter_append, unhide HE]
                    simp [Z.one, hcr, hm]
                  have CC := fun w' (h : Il w' u9 T) => zcontains_any u9 T s.gen w' h (by omega)
                  simp only [hm, decide_false] at CC
                  clear hcr hm
                  go_wp2_with fail
                  rw [← unhide HW8]
                  refine (CA _).mono ?_
                  rintro e w7 ⟨rfl, B7⟩
                  have LI7 := (unhide LI8).below B7
                  have TO7 := own_below (unhide TO8) B7
                  have Z7 : Hid (Zl w7 (.slice (some ⟨b, off, none⟩) F.length c6) F ∧ Ty12 36 w7 (.slice (some ⟨b, off, none⟩) F.length c6)) := ⟨(unhide Z8).1.below B7, (unhide Z8).2.below B7⟩
                  have BB7 : Below w5.heap.size w5 w7 := BB8.trans (B7.mono BB8.size)
                  have d0 := cell_keep d0 B7
                  have CC7 := CC w7 (Gl.owned TO7)
                  have hs7 := BB7.size
                  have BL := below_alloc w7 (.cells #[.int .i64 s.gen] 3)
                  obtain ⟨us, OU, GU, hU⟩ := LI7.below BL
                  have hul : us.length ≤ 1100 := by have := GU.1; omega
                  have IL : Il (w7.alloc (.cells #[.int .i64 s.gen] 3)) (sv (some ⟨w7.heap.size, 0, none⟩, 1, 1)) [s.gen] := by
                    have hlit := World.ownsRow_lit (base := 0) (size := 1) (e := 3) w7 #[.int .i64 s.gen] 1 (Nat.zero_le _) (by unfold maxLen; omega) rfl
                    exact Gl.owned (f := Value.int .i64) (l := [s.gen]) hlit
                  have TL : Ty12 3 (w7.alloc (.cells #[.int .i64 s.gen] 3)) (sv (some ⟨w7.heap.size, 0, none⟩, 1, 1)) := fun g hg => by
                    simp only [sv, Value.ownBlock, Option.some.injEq] at hg
                    subst hg
                    exact ⟨_, _, heap_alloc_new w7 _⟩
                  have hTL : ∀ q, (sv (some ⟨w7.heap.size, 0, none⟩, 1, 1)).ownBlock = some q → some q ≠ u9.ownBlock := fun q hq e => by
                    simp only [sv, Value.ownBlock, Option.some.injEq] at hq
                    have := (TO7.lt q e.symm).2
                    omega
                  have BB8' : Below w5.heap.size w5 (w7.alloc (.cells #[.int .i64 s.gen] 3)) := BB7.trans (BL.mono hs7)
                  have TOL := own_below TO7 BL
                  have ZL : Hid (Zl (w7.alloc (.cells #[.int .i64 s.gen] 3)) (.slice (some ⟨b, off, none⟩) F.length c6) F ∧ Ty12 36 (w7.alloc (.cells #[.int .i64 s.gen] 3)) (.slice (some ⟨b, off, none⟩) F.length c6)) := ⟨(unhide Z7).1.below BL, (unhide Z7).2.below BL⟩
                  have HGU := hide GU
                  have HIL := hide IL
                  have HTL := hide TL
                  have HTOL := hide TOL
                  have HOU := hide OU
                  have HhU := hide hU
                  have HhT := hide hTL
                  have hs8 : w5.heap.size ≤ w7.heap.size + 1 := by omega
                  clear B7 LI8 TO8 Z8 BB8 CA d1 d2 d3 c0 c1 c2 c3 CC GU IL TL TOL LI7 TO7 BL hU hTL Z7
                  go_wp2_with fail
                  refine CC7.mono ?_
                  rintro e w' ⟨rfl, rfl⟩
                  clear CC7
                  go_wp2_with (first | (at_builtin; refine append_oneL (f := sv) rfl _ _ 27 rfl Try.underlying27 hi hz0 hz1 hz2 rfl sv_one12 (pre := us) (some ⟨w'.heap.size, 0, none⟩, 1, 1) rfl rfl (by simp) OU (by simp; omega) (by omega) (by omega) ?_; intro g7 c7 w9 O7 g7' l7) | fail)
                  have B9 := BB8'.grown g7' (by simp; omega) (fun j hj => ((unhide HOU).lt j hj).1)
                  have LI9 := hide (LiO.snoc (s := (some ⟨w'.heap.size, 0, none⟩, 1, 1)) (unhide HOU) (unhide HGU) (unhide HhU) (unhide HIL) (unhide HTL) (unhide HhT) O7 g7')
                  have TO9 := hide ((unhide HTOL).kept g7' (own_apart (unhide HTOL) (unhide HOU) (by decide)))
                  have Z9 : Hid (Zl w9 (.slice (some ⟨b, off, none⟩) F.length c6) F ∧ Ty12 36 w9 (.slice (some ⟨b, off, none⟩) F.length c6)) := ⟨Kl.keep12 (unhide ZL).1 g7' ((unhide ZL).2.apart (unhide HOU) (by decide)), (unhide ZL).2.grown g7' ((unhide ZL).2.apart (unhide HOU) (by decide))⟩
                  clear O7 g7' l7 OU BB8' ZL
                  go_roundw
                  case rel => exact ⟨k + 1, E ++ [[s.gen]], by omega, by go_num, by simp; omega, HEE, LI9, TO9, Z9, B9⟩
                  case measure => simp [intOf]; omega
            · have hE := unhide HE
              rw [List.take_of_length_le (by omega)] at hE
              have HRES : Hid (Z.prop half L G = E) := by
                show _ = _
                rw [Z.prop, unhide HDD, unhide HFF, hE, unhide HTE, unhide HDD]
              clear hE
              go_wp2
              go_ret
              rw [unhide HRES]
              exact ⟨_, rfl, (unhide HLI).tl, BB5.trans (hbel.mono (by omega))⟩
end Go.Proofs.Ytfniphaehggcgaa

/-
  The contracts of Tiered, Logs and Force.
-/
namespace Go.Proofs.Ytfniphaehggcgaa
set_option maxRecDepth 100000
open Go.RowKit Go.Deep

namespace Z
theorem chunks_mem {per : Nat} {most : Int} : ∀ (n : Nat) {l : List Sz}, l.length ≤ n → ∀ {g : List Sz}, g ∈ chunks per most l → g.length = per ∧ 2 ≤ per ∧ lives g ≤ most ∧ g.Sublist l
  | 0, l, h, g, hg => by
    rw [chunks] at hg
    split at hg
    · omega
    · cases hg
  | n + 1, l, h, g, hg => by
    rw [chunks] at hg
    split at hg
    · rename_i h1
      rcases List.mem_append.1 hg with hg | hg
      · split at hg
        · rename_i h2
          simp only [List.mem_singleton] at hg
          subst hg
          exact ⟨by rw [List.length_take]; omega, h1.1, h2, List.take_sublist _ _⟩
        · cases hg
      · obtain ⟨k1, k2, k3, k4⟩ := chunks_mem n (by rw [List.length_drop]; omega) hg
        exact ⟨k1, k2, k3, k4.trans (List.drop_sublist _ _)⟩
    · cases hg
theorem runs_mem {per : Nat} {most : Int} : ∀ (n : Nat) {l : List Sz}, l.length ≤ n → ∀ {g : List Sz}, g ∈ runs per most l → g.length = per ∧ 2 ≤ per ∧ lives g ≤ most ∧ alk per g = true ∧ g.Sublist l
  | 0, l, h, g, hg => by
    rw [runs] at hg
    split at hg
    · omega
    · cases hg
  | n + 1, l, h, g, hg => by
    rw [runs] at hg
    split at hg
    · rename_i h1
      split at hg
      · rename_i h2
        rw [Bool.and_eq_true, decide_eq_true_eq] at h2
        rcases List.mem_cons.1 hg with hg | hg
        · subst hg
          exact ⟨by rw [List.length_take]; omega, h1.1, h2.2, h2.1, List.take_sublist _ _⟩
        · obtain ⟨k1, k2, k3, k4, k5⟩ := runs_mem n (by rw [List.length_drop]; omega) hg
          exact ⟨k1, k2, k3, k4, k5.trans (List.drop_sublist _ _)⟩
      · obtain ⟨k1, k2, k3, k4, k5⟩ := runs_mem n (by rw [List.length_drop]; omega) hg
        exact ⟨k1, k2, k3, k4, k5.trans (List.drop_sublist _ _)⟩
    · cases hg
theorem tierTo_mem {per : Nat} {most : Int} {l : List Sz} {k : Nat} {g : List Sz} (h : g ∈ tierTo per most l k) : ∃ i, i < k ∧ g ∈ chunks per most (l.filter (ofLv per i)) := by
  unfold tierTo at h
  obtain ⟨i, hi, hg⟩ := List.mem_flatMap.1 h
  exact ⟨i, List.mem_range.1 hi, hg⟩
end Z

theorem tiered_any (v : Value) (L : List Sz) (per most : Int) (w : World) (h : Zl w v L) (r mb : Bool) (hr : r = true ↔ Z.Ready L) (hm : mb = true ↔ Z.Pol per most) :
    Calls Try.prog 11 #[v, .agg #[.int .i64 per, .int .i64 most]] w fun e w' => ∃ v', e = .returned v' ∧ Tl w' v' (if (r && mb) = true then Z.prop true L (Z.tierG per.toNat most L) else []) ∧ Below w.heap.size w w' := by
  obtain ⟨W, hW⟩ : ∃ W, W = w.alloc (.cells #[.int .i64 per, .int .i64 most] 24) := ⟨_, rfl⟩
  have BW : Below w.heap.size w W := by rw [hW]; exact below_alloc _ _
  have CP : Calls Try.prog 29 #[v, .int .i64 0, bv per most 0] W fun e w' => ∃ v', e = .returned v' ∧ Tl w' v' (if (r && mb) = true then Z.prop true L (Z.tierG per.toNat most L) else []) ∧ Below W.heap.size W w' := by
    have eg1 : ∀ args w, (callFunc 36 args).run Try.prog w = .ok (.enter 36 args) w := enters_of Try.func36 (by kernel_rfl) rfl
    have eg2 : ∀ args w, (callFunc 56 args).run Try.prog w = .ok (.enter 56 args) w := enters_of Try.func56 (by kernel_rfl) rfl
    have eg3 : ∀ args w, (callFunc 57 args).run Try.prog w = .ok (.enter 57 args) w := enters_of Try.func57 (by kernel_rfl) rfl
    by_cases hb : (r && mb) = true
    · obtain ⟨hr1, hm1⟩ := Bool.and_eq_true_iff.1 hb
      have hF := (hr.1 hr1).fit
      have hP := hm.1 hm1
      exact propose_gen 0 _ _ _ eg1 eg2 eg3 true mb (Z.tierG per.toNat most L) v L per most 0 W (h.below BW) (fun w1 => numbered0_any w1) (fun w1 => mayTier_any per most 0 w1 mb hm) (fun _ _ w1 hz => ofLevels_any v L per most 0 w1 hz hF hP) (fun s hs w1 => mostlyDead_any s w1 hs)
        (by have := Z.tierTo_len (per := per.toNat) (most := most) hF (Z.lev per.toNat 64 + 1); have := Z.lev_64 (per := per.toNat) (by have := hP.1.1; omega) (by have := hP.1.2; omega); show (Z.tierTo _ _ _ _).length ≤ 1000; omega)
        (fun g hg => by
          obtain ⟨i, -, hg⟩ := Z.tierTo_mem hg
          obtain ⟨k1, k2, -, -⟩ := Z.chunks_mem _ (Nat.le_refl _) hg
          have := hP.1.2
          omega) r hr
    · rw [if_neg hb]
      have := propose_gen 0 _ _ _ eg1 eg2 eg3 true mb [] v L per most 0 W (h.below BW) (fun w1 => numbered0_any w1) (fun w1 => mayTier_any per most 0 w1 mb hm) (fun h1 h2 => absurd (Bool.and_eq_true_iff.2 ⟨hr.2 h2, h1⟩) hb) (fun s hs w1 => mostlyDead_any s w1 hs) (by simp) (fun g hg => by cases hg) r hr
      rwa [if_neg hb] at this
  obtain ⟨P, hP⟩ : ∃ P, (if (r && mb) = true then Z.prop true L (Z.tierG per.toNat most L) else []) = P := ⟨_, rfl⟩
  rw [hP] at CP ⊢
  unfold bv at CP
  obtain ⟨a, cap, rfl, -⟩ := h.open
  have HW := hide hW
  clear hW h hr hm hP
  go_enter Try.func11, Try.ntmps11
  go_wp2_with fail
  rw [← unhide HW]
  refine CP.mono ?_
  rintro e w1 ⟨v1, rfl, T1, B1⟩
  obtain ⟨a1, c1, rfl, -⟩ := T1.at
  have HT := hide T1
  clear CP T1
  go_wp2
  go_ret
  exact ⟨_, rfl, unhide HT, below_trans' BW B1⟩

theorem logs_any (v : Value) (L : List Sz) (per most : Int) (w : World) (h : Zl w v L) (r mb : Bool) (hr : r = true ↔ Z.Ready L) (hm : mb = true ↔ Z.Pol per most) :
    Calls Try.prog 13 #[v, .agg #[.int .i64 per, .int .i64 most]] w fun e w' => ∃ v', e = .returned v' ∧ Tl w' v' (if (r && mb) = true then Z.prop true L (Z.runs per.toNat most L) else []) ∧ Below w.heap.size w w' := by
  obtain ⟨W, hW⟩ : ∃ W, W = w.alloc (.cells #[.int .i64 per, .int .i64 most] 24) := ⟨_, rfl⟩
  have BW : Below w.heap.size w W := by rw [hW]; exact below_alloc _ _
  have CP : Calls Try.prog 29 #[v, .int .i64 1, bv per most 0] W fun e w' => ∃ v', e = .returned v' ∧ Tl w' v' (if (r && mb) = true then Z.prop true L (Z.runs per.toNat most L) else []) ∧ Below W.heap.size W w' := by
    have eg1 : ∀ args w, (callFunc 36 args).run Try.prog w = .ok (.enter 36 args) w := enters_of Try.func36 (by kernel_rfl) rfl
    have eg2 : ∀ args w, (callFunc 58 args).run Try.prog w = .ok (.enter 58 args) w := enters_of Try.func58 (by kernel_rfl) rfl
    have eg3 : ∀ args w, (callFunc 57 args).run Try.prog w = .ok (.enter 57 args) w := enters_of Try.func57 (by kernel_rfl) rfl
    by_cases hb : (r && mb) = true
    · obtain ⟨hr1, hm1⟩ := Bool.and_eq_true_iff.1 hb
      have hF := (hr.1 hr1).fit
      have hP := hm.1 hm1
      exact propose_gen 1 _ _ _ eg1 eg2 eg3 true mb (Z.runs per.toNat most L) v L per most 0 W (h.below BW) (fun w1 => numbered1_any w1) (fun w1 => mayTier_any per most 0 w1 mb hm) (fun _ _ w1 hz => ofRuns_any v L per most 0 w1 hz hF hP) (fun s hs w1 => mostlyDead_any s w1 hs)
        (by have := Z.runs_len per.toNat most _ L (Nat.le_refl _); have := hF.1; omega)
        (fun g hg => by
          obtain ⟨k1, k2, -, -, -⟩ := Z.runs_mem _ (Nat.le_refl _) hg
          have := hP.1.2
          omega) r hr
    · rw [if_neg hb]
      have := propose_gen 1 _ _ _ eg1 eg2 eg3 true mb [] v L per most 0 W (h.below BW) (fun w1 => numbered1_any w1) (fun w1 => mayTier_any per most 0 w1 mb hm) (fun h1 h2 => absurd (Bool.and_eq_true_iff.2 ⟨hr.2 h2, h1⟩) hb) (fun s hs w1 => mostlyDead_any s w1 hs) (by simp) (fun g hg => by cases hg) r hr
      rwa [if_neg hb] at this
  obtain ⟨P, hP⟩ : ∃ P, (if (r && mb) = true then Z.prop true L (Z.runs per.toNat most L) else []) = P := ⟨_, rfl⟩
  rw [hP] at CP ⊢
  unfold bv at CP
  obtain ⟨a, cap, rfl, -⟩ := h.open
  have HW := hide hW
  clear hW h hr hm hP
  go_enter Try.func13, Try.ntmps13
  go_wp2_with fail
  rw [← unhide HW]
  refine CP.mono ?_
  rintro e w1 ⟨v1, rfl, T1, B1⟩
  obtain ⟨a1, c1, rfl, -⟩ := T1.at
  have HT := hide T1
  clear CP T1
  go_wp2
  go_ret
  exact ⟨_, rfl, unhide HT, below_trans' BW B1⟩

theorem force_any (v : Value) (L : List Sz) (n : Int) (w : World) (h : Zl w v L) (hn : n ≤ 9223372036854775807) (r mb : Bool) (hr : r = true ↔ Z.Ready L) (hm : mb = true ↔ 1 ≤ n) :
    Calls Try.prog 15 #[v, .int .i64 n] w fun e w' => ∃ v', e = .returned v' ∧ Tl w' v' (if (r && mb) = true then Z.prop false L (Z.forceG n L) else []) ∧ Below w.heap.size w w' := by
  have CP : Calls Try.prog 29 #[v, .int .i64 2, bv 0 0 n] w fun e w' => ∃ v', e = .returned v' ∧ Tl w' v' (if (r && mb) = true then Z.prop false L (Z.forceG n L) else []) ∧ Below w.heap.size w w' := by
    have eg1 : ∀ args w, (callFunc 59 args).run Try.prog w = .ok (.enter 59 args) w := enters_of Try.func59 (by kernel_rfl) rfl
    have eg2 : ∀ args w, (callFunc 60 args).run Try.prog w = .ok (.enter 60 args) w := enters_of Try.func60 (by kernel_rfl) rfl
    have eg3 : ∀ args w, (callFunc 61 args).run Try.prog w = .ok (.enter 61 args) w := enters_of Try.func61 (by kernel_rfl) rfl
    have CM : ∀ w1, Calls Try.prog 59 #[bv 0 0 n] w1 fun e w2 => e = .returned (.bool mb) ∧ Below w1.heap.size w1 w2 := fun w1 => by
      have := maySegs_any 0 0 n w1
      have e : decide (1 ≤ n) = mb := by rw [Bool.eq_iff_iff, hm]; simp
      rwa [e] at this
    by_cases hb : (r && mb) = true
    · obtain ⟨hr1, hm1⟩ := Bool.and_eq_true_iff.1 hb
      have hF := (hr.1 hr1).fit
      have hP := hm.1 hm1
      have hfl : (L.filter Z.idle).length ≤ 16 := Nat.le_trans (List.length_filter_le _ _) hF.1
      exact propose_gen 2 _ _ _ eg1 eg2 eg3 false mb (Z.forceG n L) v L 0 0 n w h (fun w1 => numbered2_any w1) CM (fun _ _ w1 hz => ofSurplus_any v L 0 0 n w1 hz (by have := hF.1; omega) ⟨hP, hn⟩) (fun s _ w1 => hasDead_any s w1)
        (by unfold Z.forceG; split <;> simp)
        (fun g hg => by
          unfold Z.forceG at hg
          split at hg
          · cases hg
          · simp only [List.mem_singleton] at hg
            subst hg
            rw [List.length_take]
            omega) r hr
    · rw [if_neg hb]
      have := propose_gen 2 _ _ _ eg1 eg2 eg3 false mb [] v L 0 0 n w h (fun w1 => numbered2_any w1) CM (fun h1 h2 => absurd (Bool.and_eq_true_iff.2 ⟨hr.2 h2, h1⟩) hb) (fun s _ w1 => hasDead_any s w1) (by simp) (fun g hg => by cases hg) r hr
      rwa [if_neg hb] at this
  obtain ⟨P, hP⟩ : ∃ P, (if (r && mb) = true then Z.prop false L (Z.forceG n L) else []) = P := ⟨_, rfl⟩
  rw [hP] at CP ⊢
  unfold bv at CP
  obtain ⟨a, cap, rfl, -⟩ := h.open
  clear h hr hm hP hn
  go_enter Try.func15, Try.ntmps15
  go_wp2_with fail
  refine CP.mono ?_
  rintro e w1 ⟨v1, rfl, T1, B1⟩
  obtain ⟨a1, c1, rfl, -⟩ := T1.at
  have HT := hide T1
  clear CP T1
  go_wp2
  go_ret
  exact ⟨_, rfl, unhide HT, B1⟩
end Go.Proofs.Ytfniphaehggcgaa
