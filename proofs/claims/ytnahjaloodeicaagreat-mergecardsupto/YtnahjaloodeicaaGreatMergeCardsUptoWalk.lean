/-
  MergeCards: the law's own walk.
-/
import Derived.Test.YtnahjaloodeicaaGreatM30
import Derived.Test.YtnahjaloodeicaaGreatMergeCardsUptoOpenU11
import Derived.Test.YtnahjaloodeicaaGreatM16
import Derived.Test.YtnahjaloodeicaaGreatMergeCardsUptoRSame8
import Derived.Deep.RegionHeld3
namespace Go.Proofs.YtnahjaloodeicaaGreat
set_option maxRecDepth 100000
open Go.RowKit Go.Deep

theorem bulky_big {l : List G.Sq} (h : Bulky l 1048576) : Big l := fun s hs => ⟨(h.2 s hs).1, by have := (h.2 s hs).2; omega⟩
theorem bulky_left {l : List G.Sq} {ls : List (List Bool)} (h : Bulky l 1048576) (hR : G.Right l ls) : (G.left l ls).length ≤ 4294967295 := by
  have := G.left_le hR
  have := h.1
  omega

set_option linter.unusedSimpArgs false in
set_option maxRecDepth 100000 in
set_option maxHeartbeats 8000000 in
theorem mergeCards_walk (v u : Value) (l : List G.Sq) (ls : List (List Bool)) (so : Bool) (i d : Int) (w : World) (hl : Gs w v l) (hb : Bll w u ls) (hB : Bulky l 1048576) :
    Calls Tryz.prog 3 #[v, u, .bool so, .int .i64 i, .int .i64 d] w fun e w' => e = .returned (.bool true) ∧ Below w.heap.size w w' := by
  have CA := awakeM_any w
  have HG := hide hl
  have HB := hide hb
  obtain ⟨a, cap, rfl, -⟩ := hl.open
  obtain ⟨a2, cap2, rfl, -⟩ := hb.at
  have HBK := hide hB
  clear hl hb hB
  go_enter Tryz.func3, Tryz.ntmps3
  go_wp2_with fail
  refine CA.mono ?_
  rintro e w1 ⟨rfl, B1⟩
  have CF := fewM_any _ _ l ls w1 ((unhide HG).below B1) ((unhide HB).below B1)
  clear CA
  go_wp2_with fail
  refine CF.mono ?_
  rintro e w2 ⟨r1, rfl, hr1, B2⟩
  have BB2 := below_trans' B1 B2
  have CM := mergeM_any _ _ l ls so w2 ((unhide HG).below BB2) ((unhide HB).below BB2) (bulky_big (unhide HBK)) (by have := (unhide HBK).1; omega) (bulky_left (unhide HBK))
  clear CF B1 B2 hr1
  go_wp2_with fail
  refine CM.mono ?_
  rintro e w3 h3
  obtain ⟨ja, jb, jc, jd, m1, m2, m3, m4, jia, jib, jic, jid, jv, jb0, jn, rfl, R3, T3, -, ⟨t1, t2, t3, rfl⟩, B3⟩ := h3.ret
  have BB3 := below_trans' BB2 B3
  clear CM h3 B3 BB2
  obtain ⟨w4, hw4⟩ : ∃ w4, w4 = w3.alloc (.cells #[.slice ja m1 jia, .slice jb m2 jib, .slice jc m3 jic, .slice jd m4 jid, .bool jb0] 30) := ⟨_, rfl⟩
  have B4 : Below w3.heap.size w3 w4 := by rw [hw4]; exact below_alloc _ _
  have BB4 := below_trans' BB3 B4
  have HBB4 := hide BB4
  have HW4 := hide hw4
  by_cases h0 : jn = 0
  · subst h0
    cases r1 with
    | false =>
      clear R3 T3 B4 BB3 hw4 BB4
      go_wp2
      go_ret
      rw [← unhide HW4]
      exact ⟨rfl, unhide HBB4⟩
    | true =>
      have hG := R3.1.good rfl
      obtain ⟨hb0, S3⟩ := R3.2 rfl
      obtain ⟨s, hs⟩ : ∃ s, G.out so (G.left l ls) = s := ⟨_, rfl⟩
      obtain rfl : jb0 = so := hb0
      have TL := (T3 rfl).tl
      have HGD := hide hG
      rw [hs] at S3 TL
      obtain ⟨rfl, rfl, rfl, rfl⟩ := S3.lens11
      have HS4 := hide (S3.below B4)
      have X4 : w4.heap[w3.heap.size]? = some (.cells #[.slice ja s.ids.length jia, .slice jb s.keys.length jib, .slice jc s.lens.length jic, .slice jd s.ts.length jid, .bool jb0] 30 (0, 0)) := by rw [hw4]; exact heap_alloc_new w3 _
      obtain ⟨T, hT⟩ : ∃ T, G.tabs s.ids l ls = T := ⟨_, rfl⟩
      rw [hT] at TL
      have TL4 := TL.below B4
      have HTL := hide TL4
      obtain ⟨a9, c9, hv9, -, -, -⟩ := TL4.at
      simp only [Value.slice.injEq] at hv9
      obtain ⟨rfl, rfl, rfl⟩ := hv9
      have HB4 := hide ((unhide HB).below BB4)
      have HG4 := hide ((unhide HG).below BB4)
      have x0 := box_cell X4 (j := 0) rfl
      have x1 := box_cell X4 (j := 1) rfl
      have x2 := box_cell X4 (j := 2) rfl
      have x3 := box_cell X4 (j := 3) rfl
      have x4 := box_cell X4 (j := 4) rfl
      have hlen : (G.left l ls).length = s.ids.length := by
        rw [← hs]
        show _ = ((G.ord jb0 (G.left l ls)).map (·.id)).length
        rw [List.length_map, (G.ord_perm _ _).length_eq]
      have hV : Valid s (G.ord jb0 (G.left l ls)) jb0 := by
        have := (unhide HGD).valid jb0
        rw [hs] at this
        exact this
      have CL : ∀ w9, Below w4.heap.size w4 w9 → Calls Tryz.prog 11 #[.slice a l.length cap, .slice a2 ls.length cap2] w9 fun e w' => (∃ la lc, e = .returned (.slice la s.ids.length lc)) ∧ Below w9.heap.size w9 w' := fun w9 h9 => (leftM_any _ _ l ls w9 ((unhide HG4).below h9) ((unhide HB4).below h9) (bulky_big (unhide HBK)) (unhide HGD).right (bulky_left (unhide HBK) (unhide HGD).right)).mono fun e w' h => by
        obtain ⟨v', h1, h2, h3⟩ := h
        obtain ⟨la, lc, rfl, -⟩ := h2.open
        rw [hlen] at h1
        exact ⟨⟨la, lc, h1⟩, h3⟩
      have CM : ∀ w9, Below w4.heap.size w4 w9 → Calls Tryz.prog 12 #[.agg #[.slice ja s.ids.length jia, .slice jb s.keys.length jib, .slice jc s.lens.length jic, .slice jd s.ts.length jid, .bool jb0]] w9 fun e w' => e = .returned (.bool true) ∧ Below w9.heap.size w9 w' := fun w9 h9 => segMay_any ja jb jc jd jia jib jic jid s jb0 _ w9 ((unhide HS4).below h9) hV
      have hTl : T.length = l.length := by rw [← hT, G.tabs_len _ (unhide HGD).right.1]
      have hll : l.length = ls.length := (unhide HGD).right.1
      have q1 : ((s.ids.length : Int) != (s.ids.length : Int)) = false := by simp
      have q2 : (jb0 != jb0) = false := by simp
      have q3 : ((T.length : Int) != (l.length : Int)) = false := by rw [hTl]; simp
      have q4 : ((ls.length : Int) != (l.length : Int)) = false := by rw [hll]; simp
      have HTLL := hide hTl
      have HLL := hide hll
      have HVV := hide hV
      have HX4 := hide X4
      have HWE := hide hw4
      have HHS := hide hs
      have HHT := hide hT
      clear R3 T3 TL S3 BB3 BB4 TL4 hG B4 hw4 hTl hll hlen hV X4 hs hT
      go_upto_region 6 with fail
      rw [← unhide HWE]
      go_region_held3 (fun w' => w'.cell? ⟨w3.heap.size, 0, none⟩ = some (.slice ja s.ids.length jia) ∧ w'.cell? ⟨w3.heap.size, 1, none⟩ = some (.slice jb s.keys.length jib) ∧ w'.cell? ⟨w3.heap.size, 2, none⟩ = some (.slice jc s.lens.length jic) ∧ w'.cell? ⟨w3.heap.size, 3, none⟩ = some (.slice jd s.ts.length jid) ∧ w'.cell? ⟨w3.heap.size, 4, none⟩ = some (.bool jb0) ∧ Below w4.heap.size w4 w')
        (first
          | (go_split_ands; exact ⟨x0, x1, x2, x3, x4, (Below.refl _ _).drew⟩)
          | (go_split_ands; exact ⟨cell_keep (by assumption) B5, cell_keep (by assumption) B5, cell_keep (by assumption) B5, cell_keep (by assumption) B5, cell_keep (by assumption) B5, below_trans' (by assumption) B5⟩)
          | (go_split_ands; exact ⟨cell_keep (by assumption) B6, cell_keep (by assumption) B6, cell_keep (by assumption) B6, cell_keep (by assumption) B6, cell_keep (by assumption) B6, below_trans' (by assumption) B6⟩))
        (first
          | (go_at_call 11; go_split_ands; refine (CL _ ?_).mono ?_; assumption; rintro e w5 ⟨⟨la, lc, rfl⟩, B5⟩)
          | (go_at_call 12; go_split_ands; refine (CM _ ?_).mono ?_; assumption; rintro e w6 ⟨rfl, B6⟩))
      have BW6 : Below w4.heap.size w4 w6 := below_trans' (below_trans' (Below.refl _ _).drew B5) B6
      have BB6 := below_trans' (unhide HBB4) BW6
      obtain ⟨w7, hw7⟩ : ∃ w7, w7 = w6 := ⟨_, rfl⟩
      rw [← hw7] at BB6 BW6 ⊢
      have HB6 := hide BB6
      have HBW := hide BW6
      clear hw7 B5 B6 BB6 BW6 x0 x1 x2 x3 x4 CL CM q1 q2 q3 q4
      by_cases i0 : i < 0
      · go_wp2
        go_ret
        exact ⟨rfl, unhide HB6⟩
      obtain ⟨k, rfl⟩ := Int.eq_ofNat_of_zero_le (show 0 ≤ i by omega)
      by_cases i1 : (l.length : Int) ≤ (k : Int)
      · go_wp2
        go_ret
        exact ⟨rfl, unhide HB6⟩
      by_cases d0 : d < 0
      · go_wp2
        go_ret
        exact ⟨rfl, unhide HB6⟩
      obtain ⟨m, rfl⟩ := Int.eq_ofNat_of_zero_le (show 0 ≤ d by omega)
      have hkl : k < l.length := by omega
      obtain ⟨q, hq⟩ : ∃ q, l[k]? = some q := ⟨_, List.getElem?_eq_getElem hkl⟩
      obtain ⟨lv, hlv⟩ : ∃ lv, ls[k]? = some lv := ⟨_, List.getElem?_eq_getElem (by have := unhide HLL; omega)⟩
      obtain ⟨a9, c9, hv9, -, -, -, ho9⟩ := ((unhide HG4).below (unhide HBW)).open
      simp only [Value.slice.injEq, true_and] at hv9
      obtain ⟨rfl, rfl⟩ := hv9
      obtain ⟨b, off, rfl, hb1, hc1⟩ := ho9 (by omega)
      obtain ⟨ia, ka, lna, ta, ic, kc, lnc, tc, c0, c1, c2, c3, c4, hQ⟩ := hc1 k q hq
      clear ho9 hc1
      by_cases d1 : (q.1.ids.length : Int) ≤ (m : Int)
      · go_wp2
        go_ret
        exact ⟨rfl, unhide HB6⟩
      have hmq : m < q.1.ids.length := by omega
      obtain ⟨hM, hal⟩ := (unhide HGD).right.2 k q lv hq hlv
      obtain ⟨c, hc⟩ : ∃ c, (S.crd q.1)[m]? = some c := ⟨_, S.crd_get hmq⟩
      obtain ⟨al, hma⟩ : ∃ al, lv[m]? = some al := ⟨_, List.getElem?_eq_getElem (by omega)⟩
      obtain ⟨t, ht, htl, hdead, hlive⟩ := (unhide HGD).entry jb0 hq hlv hc hma
      rw [unhide HHS, unhide HHT] at ht
      rw [unhide HHS] at hlive
      obtain ⟨a9, c9, hv9, -, -, ho9⟩ := ((unhide HTL).below (unhide HBW)).at
      simp only [Value.slice.injEq, true_and] at hv9
      obtain ⟨rfl, rfl⟩ := hv9
      obtain ⟨tb, toff, rfl, htb, htc⟩ := ho9 (by have := unhide HTLL; omega)
      obtain ⟨xa, xc, e0, gt⟩ := htc k t ht
      clear ho9 htc
      obtain ⟨a9, c9, hv9, -, -, ho9⟩ := ((unhide HB4).below (unhide HBW)).at
      simp only [Value.slice.injEq, true_and] at hv9
      obtain ⟨rfl, rfl⟩ := hv9
      obtain ⟨b2, off2, rfl, hb2, hc2⟩ := ho9 (by have := unhide HLL; omega)
      obtain ⟨ya, yc, f0, gl⟩ := hc2 k lv hlv
      clear ho9 hc2
      have p1 : ((t.length : Int) != (q.1.ids.length : Int)) = false := by rw [htl]; simp
      have p2 : ((lv.length : Int) != (q.1.ids.length : Int)) = false := by rw [hal]; simp
      have p3 : (k : Int) < (l.length : Int) := by omega
      have p4 : (k : Int) < (T.length : Int) := by have := unhide HTLL; omega
      have p5 : (k : Int) < (ls.length : Int) := by have := unhide HLL; omega
      have p6 : (m : Int) < (t.length : Int) := by omega
      have p7 : (m : Int) < (lv.length : Int) := by omega
      obtain ⟨a9, c9, hv9, -, -, -, ho9⟩ := gt.open
      simp only [Value.slice.injEq, true_and] at hv9
      obtain ⟨rfl, rfl⟩ := hv9
      obtain ⟨eb, eo, rfl, heb, hec⟩ := ho9 (by omega)
      clear ho9
      obtain ⟨a9, c9, hv9, -, -, -, ho9⟩ := gl.open
      simp only [Value.slice.injEq, true_and] at hv9
      obtain ⟨rfl, rfl⟩ := hv9
      obtain ⟨vb, vo, rfl, hvb, hvc⟩ := ho9 (by omega)
      clear ho9
      have f1 := hvc m al hma
      have HQS := hide hQ
      have HQM := hide hM
      have HC := hide hc
      have HEC := hide hec
      have HLV := hide hlive
      have hdead := hide hdead
      have HTL2 := hide htl
      have HAL := hide hal
      clear hvc gl gt hal htl hM hc hec hlive hQ hma ht hq hlv
      go_upto_region 10 with fail
      go_quiet (fail)
      obtain ⟨w8, hw8⟩ : ∃ w8, w8 = w7.drewN nq := ⟨_, rfl⟩
      have B8 : Below w7.heap.size w7 w8 := by rw [hw8]; exact below_dr' (Below.refl _ _) _
      rw [← hw8]
      have BB8 := hide (below_trans' (unhide HB6) B8)
      have HBW8 := hide (below_trans' (unhide HBW) B8)
      have e0 := cell_keep e0 B8
      have f0 := cell_keep f0 B8
      have f1 := cell_keep f1 B8
      have c0 := cell_keep c0 B8
      have c1 := cell_keep c1 B8
      have c2 := cell_keep c2 B8
      have c3 := cell_keep c3 B8
      have c4 := cell_keep c4 B8
      have HQ8 := hide ((unhide HQS).below B8)
      have HB8 := hide B8
      clear hw8 B8
      cases al with
      | false =>
        have e1 := cell_keep ((unhide HEC) m _ ((unhide hdead) rfl)) (unhide HB8)
        go_wp2
        go_ret
        exact ⟨rfl, unhide BB8⟩
      | true =>
        obtain ⟨n, hn1, hn2, hn3⟩ := (unhide HLV) rfl
        have e1 := cell_keep ((unhide HEC) m _ hn1) (unhide HB8)
        have CC := card8_any ia ka lna ta ic kc lnc tc q.1 q.2 _ m c w8 (unhide HQ8) (may_valid (unhide HQM)) (unhide HC)
        have HN3 := hide hn3
        have HN2 := hide hn2
        clear hn1 hn2 hn3
        go_wp2_with fail
        refine CC.mono ?_
        rintro e w9 ⟨va, rfl, OA, B9⟩
        have GA := Gl.owned OA
        obtain ⟨aa, ca, rfl, -⟩ := id GA
        have B49 := below_trans' (unhide HBW8) B9
        have BB9 := below_trans' (unhide BB8) B9
        obtain ⟨wa, hwa⟩ : ∃ wa, wa = w9.alloc (.cells #[.string c.id, .int .i64 c.key, .slice aa c.w.length ca] 40) := ⟨_, rfl⟩
        have BA : Below w9.heap.size w9 wa := by rw [hwa]; exact below_alloc _ _
        have XA : wa.heap[w9.heap.size]? = some (.cells #[.string c.id, .int .i64 c.key, .slice aa c.w.length ca] 40 (0, 0)) := by rw [hwa]; exact heap_alloc_new w9 _
        have X9 := box_below (unhide HX4) B49
        have hlt9 : w3.heap.size < w9.heap.size := (Array.getElem?_eq_some_iff.1 X9).1
        have B4A := below_trans' B49 BA
        have XSA := box_below X9 BA
        have CC2 := card8_any ja jb jc jd jia jib jic jid s jb0 _ n c wa ((unhide HS4).below B4A) (unhide HVV) (unhide HN3)
        have GAA := GA.below BA
        have HWA := hide hwa
        have HXA := hide XA
        have HXS := hide XSA
        have HGA := hide GAA
        have HB4A := hide B4A
        have HBA := hide (below_trans' BB9 BA)
        have x0 := box_cell X9 (j := 0) rfl
        have x1 := box_cell X9 (j := 1) rfl
        have x2 := box_cell X9 (j := 2) rfl
        have x3 := box_cell X9 (j := 3) rfl
        have x4 := box_cell X9 (j := 4) rfl
        clear CC c0 c1 c2 c3 c4 e0 e1 f0 f1 OA GA B49 BB9 hwa BA XA X9 B4A XSA GAA
        go_wp2_with fail
        rw [← unhide HWA]
        refine CC2.mono ?_
        rintro e w10 ⟨vb2, rfl, OB, B10⟩
        have GB := Gl.owned OB
        obtain ⟨ab, cb, rfl, -⟩ := id GB
        obtain ⟨pa, hpa⟩ : ∃ pa, w9.heap.size = pa := ⟨_, rfl⟩
        have XA := box_below (unhide HXA) B10
        have XS := box_below (unhide HXS) B10
        rw [hpa] at XA ⊢
        have hlta : pa < w10.heap.size := (Array.getElem?_eq_some_iff.1 XA).1
        obtain ⟨wb, hwb⟩ : ∃ wb, wb = w10.alloc (.cells #[.string c.id, .int .i64 c.key, .slice ab c.w.length cb] 40) := ⟨_, rfl⟩
        have BB : Below w10.heap.size w10 wb := by rw [hwb]; exact below_alloc _ _
        have CS := samec_any c.id c.key _ _ c.w wb (((unhide HGA).below B10).below BB) (GB.below BB)
        have HXA2 := hide (box_below XA BB)
        have HXS2 := hide (box_below XS BB)
        have HB4B := hide (below_trans' (below_trans' (unhide HB4A) B10) BB)
        have HBB := hide (below_trans' (below_trans' (unhide HBA) B10) BB)
        have HWB := hide hwb
        have y0 := box_cell XA (j := 0) rfl
        have y1 := box_cell XA (j := 1) rfl
        have y2 := box_cell XA (j := 2) rfl
        clear CC2 x0 x1 x2 x3 x4 OB GB B10 BB XA XS hwb
        go_wp2_with fail
        rw [← unhide HWB]
        refine CS.mono ?_
        rintro e w11 ⟨rfl, B11⟩
        have XA := box_below (unhide HXA2) B11
        have XS := box_below (unhide HXS2) B11
        have CFI := find8_any ja jb jc jd jia jib jic jid s jb0 _ n c w11 ((unhide HS4).below (below_trans' (unhide HB4B) B11)) (unhide HVV) (unhide HN3)
        have HBE := hide (below_trans' (unhide HBB) B11)
        have x0 := box_cell XS (j := 0) rfl
        have x1 := box_cell XS (j := 1) rfl
        have x2 := box_cell XS (j := 2) rfl
        have x3 := box_cell XS (j := 3) rfl
        have x4 := box_cell XS (j := 4) rfl
        have z0 := box_cell XA (j := 0) rfl
        have q9 : ((n : Int) == (n : Int)) = true := by simp
        clear CS y0 y1 y2 XA XS B11
        go_wp2_with fail
        refine CFI.mono ?_
        rintro e w12 ⟨rfl, B12⟩
        have BE := below_trans' (unhide HBE) B12
        clear CFI x0 x1 x2 x3 x4 z0
        go_wp2
        go_ret
        exact ⟨rfl, BE⟩
  · have hne : (jn != 0) = true := by simpa using h0
    clear R3 T3 B4 BB3 hw4 BB4
    cases r1 with
    | false =>
      go_wp2
      go_ret
      rw [← unhide HW4]
      exact ⟨rfl, unhide HBB4⟩
    | true =>
      go_wp2
      go_ret
      rw [← unhide HW4]
      exact ⟨rfl, unhide HBB4⟩
end Go.Proofs.YtnahjaloodeicaaGreat
