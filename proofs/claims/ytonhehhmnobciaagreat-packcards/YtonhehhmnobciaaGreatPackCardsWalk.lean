/-
  The walk of the law of the cards of what is packed, and unpacked.
-/
import Derived.Test.YtonhehhmnobciaaGreatK25
import Derived.Test.YtonhehhmnobciaaGreatK10
import Derived.Test.YtonhehhmnobciaaGreatK23
import Derived.Test.YtonhehhmnobciaaGreatK17
import Derived.Deep.RegionHeld3
namespace Go.Proofs.YtonhehhmnobciaaGreat
set_option maxRecDepth 100000
open Go.RowKit

/-- A segment of cards may be. -/
theorem valid_may {s : Sg} {l : List Cd} {so : Bool} (h : Valid s l so) : MayP s so := by
  obtain ⟨n1, n2, n3, -⟩ := h.lens
  have at' : ∀ (d : Nat) (x : ByteArray) (k n : Int), s.ids[d]? = some x → s.keys[d]? = some k → s.lens[d]? = some n → ∃ c, l[d]? = some c ∧ x = c.id ∧ k = c.key ∧ n = (c.w.length : Int) := fun d x k n h1 h2 h3 => by
    have hd := (List.getElem?_eq_some_iff.1 h1).1
    have hc : l[d]? = some (l[d]'(by omega)) := List.getElem?_eq_getElem _
    obtain ⟨g1, g2, g3⟩ := h.at hc
    rw [g1] at h1
    rw [g2] at h2
    rw [g3] at h3
    cases h1; cases h2; cases h3
    exact ⟨_, hc, rfl, rfl, rfl⟩
  refine ⟨⟨by have := h.2.len; omega, by omega, by omega, ?_, ?_, ?_⟩, ?_, ?_, ?_⟩
  · rw [h.1]
    have := h.2.unl
    unfold S.Unlike at this
    show (l.map (·.id)).Nodup
    rw [List.nodup_iff_pairwise_ne, List.pairwise_map]
    exact this
  · intro d x k n h1 h2 h3
    obtain ⟨c, hc, rfl, rfl, rfl⟩ := at' d x k n h1 h2 h3
    exact fits_head8 (h.2.fit c (List.mem_of_getElem? hc))
  · intro hso d x y k m h1 h2 h3 h4
    have hd := (List.getElem?_eq_some_iff.1 h1).1
    have hd2 := (List.getElem?_eq_some_iff.1 h3).1
    obtain ⟨c, hc, rfl, rfl, -⟩ := at' d x k _ h1 h2 (List.getElem?_eq_getElem (by omega))
    obtain ⟨c2, hc2, rfl, rfl, -⟩ := at' (d + 1) y m _ h3 h4 (List.getElem?_eq_getElem (by omega))
    have hup := h.2.up hso
    obtain ⟨i1, r1⟩ := List.getElem?_eq_some_iff.1 hc
    obtain ⟨i2, r2⟩ := List.getElem?_eq_some_iff.1 hc2
    have := List.pairwise_iff_getElem.1 hup d (d + 1) i1 i2 (by omega)
    rw [r1, r2] at this
    exact this
  · rw [h.words]
    exact h.2.may
  · intro j t ht
    obtain ⟨l1, l2, l3, l4, -⟩ := h.lay ht
    exact ⟨l1, l2, l3, fun p hp k hk => by
      obtain ⟨d, e1, -, -, -, z, e2, e3⟩ := l4 p hp k hk
      exact ⟨d, e1, z, e2, e3⟩⟩
  · rw [h.spots, S.laid_len, h.1]
    exact (sum_total l).symm

set_option maxRecDepth 100000 in
set_option maxHeartbeats 8000000 in
theorem packCards_walk (v : Value) (L : List Cd) (so : Bool) (w : World) (h : Cs w v L) (hlen : L.length ≤ 4398046511104) :
    Calls Tryz.prog 3 #[v, .bool so] w fun e w' => e = .returned (.bool true) ∧ Below w.heap.size w w' := by
  have HV := h
  obtain ⟨a, cap, rfl, hl, hm, hna, -⟩ := h.open
  clear h
  obtain ⟨R, hR⟩ : ∃ R, S.build L so = R := ⟨_, rfl⟩
  have HR := hide hR
  clear hR
  go_enter Tryz.func3, Tryz.ntmps3
  go_wp2_with fail
  refine (awake9_any w).mono ?_
  rintro e w1 ⟨rfl, B1⟩
  have HV1 := HV.below B1
  clear HV
  go_wp2_with fail
  refine (few8_any _ L w1 HV1).mono ?_
  rintro e w9 ⟨fw, rfl, -, hw9⟩
  rw [hw9]
  clear hw9 w9
  go_wp2_with fail
  refine (build_any _ L so w1 HV1 hlen R (unhide HR)).mono ?_
  obtain ⟨s, sb, en⟩ := R
  rintro e w2 ⟨iv, kv, lv, tv, rfl, S2, B2⟩
  obtain ⟨ia, ka, lna, ta, ic, kc, lnc, tc, rfl, rfl, rfl, rfl⟩ := S2.shape
  try dsimp only at S2
  have Z2 := SB.new (so := sb) S2
  obtain ⟨W2, hW2⟩ : ∃ W2, W2 = w2.alloc (.cells #[.slice ia s.ids.length ic, .slice ka s.keys.length kc, .slice lna s.lens.length lnc, .slice ta s.ts.length tc, .bool sb] 29) := ⟨_, rfl⟩
  have BW2 : Below w2.heap.size w2 W2 := by rw [hW2]; exact below_alloc _ _
  rw [← hW2] at Z2
  have HV2 := (HV1.below B2).below BW2
  have BB := below_trans' (below_trans' B1 B2) BW2
  have HW2 := hide hW2
  obtain ⟨p2, hp2⟩ : ∃ p2, p2 = w2.heap.size := ⟨_, rfl⟩
  rw [← hp2] at Z2
  have HP2 := hide hp2
  clear hW2 hp2 HV1 S2 B1 B2 BW2
  cases fw with
  | false =>
    go_wp2
    go_ret
    exact ⟨rfl, by first | exact BB | (rw [← unhide HW2]; exact BB)⟩
  | true =>
  by_cases hen : en = 0
  case neg =>
    have q1 : (en == 0) = false := by simpa using hen
    have q2 : decide (en = 0) = false := by simpa using hen
    have q3 : (en != 0) = true := by simpa using hen
    go_wp2
    go_ret
    exact ⟨rfl, by first | exact BB | (rw [← unhide HW2]; exact BB)⟩
  case pos =>
  subst hen
  obtain ⟨LL, hLL0, VV, hsb, -, -, -, -⟩ := build_ok (unhide HR) rfl
  dsimp only at hsb VV
  subst hsb
  have hM := valid_may VV
  have HVV := hide VV
  have HL0 := hide hLL0
  have HM := hide hM
  have hidm : ∀ x ∈ s.ids, x.size ≤ maxLen := fun x hx => by
    have := hM.id x hx
    unfold maxLen
    omega
  have htsm : s.ts.length ≤ 3518437208780 := by
    have := D.may_len hM.words
    rw [List.length_map] at this
    omega
  have CP := pack9_any ia ka lna ta ic kc lnc tc s sb W2 Z2.sv hidm htsm
  unfold PkEnd at CP
  obtain ⟨l, hl9⟩ : ∃ l, F.wrap 83 (J.inner s sb) = l := ⟨_, rfl⟩
  have HBT : Hid (V.Byt l) := hide (by rw [← hl9]; exact wrap_byt9 hM)
  have HU := hide (fun (g : Sg) (so' : Bool) (er : Int) (hu : UnP l g so' er) => unp_wrap hM (by rw [hl9]; exact hu))
  rw [hl9] at CP
  have HX2 := hide Z2
  have HHV2 := hide HV2
  clear hM hl9 VV hLL0 hidm htsm Z2 HV2 HR
  go_wp2_with fail
  rw [← unhide HW2, ← unhide HP2]
  refine CP.mono ?_
  rintro e w3 (⟨-, v3, rfl, O3, B3⟩ | ⟨hn, -⟩)
  case inr => exact absurd (unhide HM) hn
  obtain ⟨pa, pc, hv3, -⟩ := id (Sl.owned O3)
  subst hv3
  have HX3 := hide ((unhide HX2).below B3)
  have HV3 := hide ((unhide HHV2).below B3)
  replace BB := below_trans' BB B3
  clear CP B3 HX2 HHV2 HW2 HP2
  go_wp2_with fail
  refine (unpack9_any _ l w3 (Sl.owned O3) (unhide HBT)).mono ?_
  rintro e w4 ⟨iv, kv, lv, tv, so', er, g, rfl, S4, U4, B4⟩
  obtain ⟨rfl, hg, hs'⟩ := unhide HU _ _ _ U4
  have hg2 := hg.symm
  have hs2 := hs'.symm
  subst hg2
  subst hs2
  obtain ⟨ia2, ka2, lna2, ta2, ic2, kc2, lnc2, tc2, rfl, rfl, rfl, rfl⟩ := S4.shape
  have Z4 := SB.new (so := sb) S4
  obtain ⟨W4, hW4⟩ : ∃ W4, W4 = w4.alloc (.cells #[.slice ia2 s.ids.length ic2, .slice ka2 s.keys.length kc2, .slice lna2 s.lens.length lnc2, .slice ta2 s.ts.length tc2, .bool sb] 29) := ⟨_, rfl⟩
  have BW4 : Below w4.heap.size w4 W4 := by rw [hW4]; exact below_alloc _ _
  rw [← hW4] at Z4
  obtain ⟨p4, hp4⟩ : ∃ p4, p4 = w4.heap.size := ⟨_, rfl⟩
  rw [← hp4] at Z4
  replace BB := below_trans' (below_trans' BB B4) BW4
  have HX5 := hide (((unhide HX3).below B4).below BW4)
  have HY5 := hide Z4
  have HV5 := hide (((unhide HV3).below B4).below BW4)
  have HW4 := hide hW4
  have HP4 := hide hp4
  clear hW4 hp4 Z4 S4 U4 B4 O3 BW4 HX3 HV3
  go_wp2
  rw [← unhide HW4, ← unhide HP4]
  go_region_held3 (fun w' => w'.cell? ⟨p2, 0, none⟩ = some (.slice ia s.ids.length ic) ∧ w'.cell? ⟨p2, 1, none⟩ = some (.slice ka s.keys.length kc) ∧ w'.cell? ⟨p2, 2, none⟩ = some (.slice lna s.lens.length lnc) ∧ w'.cell? ⟨p2, 3, none⟩ = some (.slice ta s.ts.length tc) ∧ w'.cell? ⟨p2, 4, none⟩ = some (.bool sb) ∧ w'.cell? ⟨p4, 0, none⟩ = some (.slice ia2 s.ids.length ic2) ∧ w'.cell? ⟨p4, 1, none⟩ = some (.slice ka2 s.keys.length kc2) ∧ w'.cell? ⟨p4, 2, none⟩ = some (.slice lna2 s.lens.length lnc2) ∧ w'.cell? ⟨p4, 3, none⟩ = some (.slice ta2 s.ts.length tc2) ∧ w'.cell? ⟨p4, 4, none⟩ = some (.bool sb) ∧ Below W4.heap.size W4 w')
    (first
      | (go_split_ands; exact ⟨(unhide HX5).c0, (unhide HX5).c1, (unhide HX5).c2, (unhide HX5).c3, (unhide HX5).c4, (unhide HY5).c0, (unhide HY5).c1, (unhide HY5).c2, (unhide HY5).c3, (unhide HY5).c4, (Below.refl _ _).drew⟩)
      | (go_split_ands; exact ⟨cell_keep (by assumption) B6, cell_keep (by assumption) B6, cell_keep (by assumption) B6, cell_keep (by assumption) B6, cell_keep (by assumption) B6, cell_keep (by assumption) B6, cell_keep (by assumption) B6, cell_keep (by assumption) B6, cell_keep (by assumption) B6, cell_keep (by assumption) B6, below_trans' (by assumption) B6⟩)
      | (go_split_ands; exact ⟨cell_keep (by assumption) B7, cell_keep (by assumption) B7, cell_keep (by assumption) B7, cell_keep (by assumption) B7, cell_keep (by assumption) B7, cell_keep (by assumption) B7, cell_keep (by assumption) B7, cell_keep (by assumption) B7, cell_keep (by assumption) B7, cell_keep (by assumption) B7, below_trans' (by assumption) B7⟩)
      | (go_split_ands; exact ⟨cell_keep (by assumption) B8, cell_keep (by assumption) B8, cell_keep (by assumption) B8, cell_keep (by assumption) B8, cell_keep (by assumption) B8, cell_keep (by assumption) B8, cell_keep (by assumption) B8, cell_keep (by assumption) B8, cell_keep (by assumption) B8, cell_keep (by assumption) B8, below_trans' (by assumption) B8⟩))
    (first
      | (go_at_call_of 10 (Value.agg #[.slice ia2 s.ids.length ic2, .slice ka2 s.keys.length kc2, .slice lna2 s.lens.length lnc2, .slice ta2 s.ts.length tc2, .bool sb]); go_split_ands; refine (cards_any ia2 ka2 lna2 ta2 ic2 kc2 lnc2 tc2 s sb LL _ ((unhide HY5).below (by assumption)).sv (unhide HVV)).mono ?_; rintro e w6 ⟨v6, rfl, M6, B6⟩)
      | (go_at_call_of 10 (Value.agg #[.slice ia s.ids.length ic, .slice ka s.keys.length kc, .slice lna s.lens.length lnc, .slice ta s.ts.length tc, .bool sb]); go_split_ands; refine (cards_any ia ka lna ta ic kc lnc tc s sb LL _ ((unhide HX5).below (by assumption)).sv (unhide HVV)).mono ?_; rintro e w7 ⟨v7, rfl, M7, B7⟩)
      | (go_at_call 9; go_split_ands; refine (allSame_any _ _ LL _ (M6.below B7) M7).mono ?_; rintro e w8 ⟨rfl, B8⟩))
  have R7 : Below W4.heap.size W4 w7 := by assumption
  have B48 := below_trans' R7 B8
  have HY8 := hide ((unhide HY5).below B48)
  have HV8 := hide ((unhide HV5).below B48)
  replace BB := below_trans' BB B48
  clear M6 M7 B6 B7 B8 R7 B48 HW4 HP4 HX5
  have c0 : w8.cell? ⟨p4, 0, none⟩ = some (.slice ia2 s.ids.length ic2) := (unhide HY8).c0
  have c1 : w8.cell? ⟨p4, 1, none⟩ = some (.slice ka2 s.keys.length kc2) := (unhide HY8).c1
  have c2 : w8.cell? ⟨p4, 2, none⟩ = some (.slice lna2 s.lens.length lnc2) := (unhide HY8).c2
  have c3 : w8.cell? ⟨p4, 3, none⟩ = some (.slice ta2 s.ts.length tc2) := (unhide HY8).c3
  have c4 : w8.cell? ⟨p4, 4, none⟩ = some (.bool sb) := (unhide HY8).c4
  go_wp2_with fail
  refine (cards_any ia2 ka2 lna2 ta2 ic2 kc2 lnc2 tc2 s sb LL w8 (unhide HY8).sv (unhide HVV)).mono ?_
  rintro e w10 ⟨v10, rfl, M10, B10⟩
  have HY10 := hide ((unhide HY8).below B10)
  have V10 := (unhide HV8).below B10
  replace BB := below_trans' BB B10
  obtain ⟨xa, xc, hv10, -⟩ := id M10.open
  subst hv10
  have CG := allSameG_any _ _ LL L w10 M10 V10
  clear B10 HY8 HV8 M10 V10 c0 c1 c2 c3 c4
  go_wp2_with fail
  refine CG.mono ?_
  rintro e w11 ⟨r, rfl, hr, B11⟩
  have c4 : w11.cell? ⟨p4, 4, none⟩ = some (.bool sb) := ((unhide HY10).below B11).c4
  replace BB := below_trans' BB B11
  have q9 : (sb == sb) = true := by simp
  clear B11 HY10 CG
  cases sb with
  | false =>
    obtain rfl : r = true := hr (by rw [unhide HL0]; rfl)
    clear hr
    go_wp2
    go_ret
    exact ⟨rfl, BB⟩
  | true =>
    clear hr
    go_wp2
    go_ret
    exact ⟨rfl, BB⟩
end Go.Proofs.YtonhehhmnobciaaGreat
