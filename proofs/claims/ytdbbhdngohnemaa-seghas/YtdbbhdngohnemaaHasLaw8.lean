/-
  The walk of the law of a word's places.
-/
import Derived.Test.YtdbbhdngohnemaaAwake8
import Derived.Test.YtdbbhdngohnemaaFew8
namespace Go.Proofs.Ytdbbhdngohnemaa
open Go.RowKit

/-- What postings tell of one document. -/
def said (l : List Pt) (d : Nat) : List Int := (l.filter fun p => decide (p.d = (d : Int))).flatMap (·.a)
theorem said_snoc (l : List Pt) (p : Pt) (d : Nat) : said (l ++ [p]) d = said l d ++ if p.d = (d : Int) then p.a else [] := by
  unfold said
  rw [List.filter_append, List.flatMap_append]
  congr 1
  by_cases h : p.d = (d : Int)
  · simp [h]
  · simp [h]
theorem said_doc {l : List Cd} {t : ByteArray} {d : Nat} {c : Cd} (hc : l[d]? = some c) : said ((S.posts l t).map S.pt) d = S.places c.w t := by
  rw [← S.of_doc (t := t) hc]
  unfold said
  rw [List.filter_map, List.flatMap_map]
  rfl

set_option maxRecDepth 100000 in
set_option maxHeartbeats 8000000 in
theorem segHas_walk (v : Value) (L : List Cd) (so : Bool) (t : ByteArray) (doc : Int) (w : World) (h : Cs w v L) (hlen : L.length ≤ 4398046511104) :
    Calls Try.prog 5 #[v, .bool so, .string t, .int .i64 doc] w fun e w' => e = .returned (.bool true) ∧ Below w.heap.size w w' := by
  obtain ⟨j0, hj, hj0, hj1, hj2⟩ := info_parts Try.info3
  have HV := h
  obtain ⟨a, cap, rfl, hl, hm, hna, -⟩ := h.open
  clear h
  obtain ⟨R, hR⟩ : ∃ R, S.build L so = R := ⟨_, rfl⟩
  have HR := hide hR
  clear hR
  go_enter Try.func5, Try.ntmps5
  go_wp2_with fail
  refine (awake_any w).mono ?_
  rintro e w1 ⟨rfl, B1⟩
  have HV1 := HV.below B1
  clear HV
  go_wp2_with fail
  refine (few8_any _ L w1 HV1).mono ?_
  rintro e w9 ⟨fw, rfl, -, hw9⟩
  rw [hw9]
  clear hw9 w9
  go_wp2_with fail
  refine (build_any _ L so w1 HV1 hlen R (unhide HR)).mono ?_
  obtain ⟨s, sb, en⟩ := R
  rintro e w2 ⟨iv, kv, lv, tv, rfl, S2, B2⟩
  obtain ⟨ia, ka, lna, ta, ic, kc, lnc, tc, rfl, rfl, rfl, rfl⟩ := S2.shape
  have Z2 := SB.new (so := sb) S2
  obtain ⟨W2, hW2⟩ : ∃ W2, W2 = w2.alloc (.cells #[.slice ia s.ids.length ic, .slice ka s.keys.length kc, .slice lna s.lens.length lnc, .slice ta s.ts.length tc, .bool sb] 31) := ⟨_, rfl⟩
  have BW2 : Below w2.heap.size w2 W2 := by rw [hW2]; exact below_alloc _ _
  rw [← hW2] at Z2
  have BB := below_trans' (below_trans' B1 B2) BW2
  have HW2 := hide hW2
  obtain ⟨p2, hp2⟩ : ∃ p2, w2.heap.size = p2 := ⟨_, rfl⟩
  clear hW2 HV1 S2 B1 B2 BW2
  cases fw with
  | false =>
    go_wp2_with fail
    go_ret
    exact ⟨rfl, by rw [← unhide HW2]; exact BB⟩
  | true =>
  by_cases hen : en = 0
  case neg =>
    have q1 : (en == 0) = false := by simpa using hen
    have q2 : decide (en = 0) = false := by simpa using hen
    have q3 : (en != 0) = true := by simpa using hen
    go_wp2_with fail
    go_ret
    exact ⟨rfl, by rw [← unhide HW2]; exact BB⟩
  case pos =>
  subst hen
  obtain ⟨LL, -, VV, hsb, -, hperm, hL64, -⟩ := build_ok (unhide HR) rfl
  dsimp only at hsb VV
  subst hsb
  have hLL := hperm.length_eq
  have HVV := hide VV
  clear hperm VV
  by_cases ht : (40 : Int) < t.size
  · go_wp2_with fail
    go_ret
    exact ⟨rfl, by rw [← unhide HW2]; exact BB⟩
  by_cases hd0 : doc < 0
  · go_wp2_with fail
    go_ret
    exact ⟨rfl, by rw [← unhide HW2]; exact BB⟩
  by_cases hdl : (L.length : Int) ≤ doc
  · go_wp2_with fail
    go_ret
    exact ⟨rfl, by rw [← unhide HW2]; exact BB⟩
  obtain ⟨d, rfl⟩ : ∃ d : Nat, doc = (d : Int) := ⟨doc.toNat, by omega⟩
  have hdl2 : d < LL.length := by omega
  obtain ⟨c, hc⟩ : ∃ c, LL[d]? = some c := ⟨LL[d], List.getElem?_eq_getElem hdl2⟩
  have HC := hide hc
  have hw120 := (S.fits_w ((unhide HVV).2.fit c (List.mem_of_getElem? hc))).1
  have hlens : (d : Int) < (s.lens.length : Int) := by have := (unhide HVV).lens.2.2.1; omega
  have hn64 : ((S.posts LL t).map S.pt).length ≤ 64 := by have := S.posts_len LL t; rw [List.length_map]; omega
  have HA : Hid (∀ p ∈ (S.posts LL t).map S.pt, p.a.length ≤ 120) := hide (fun p hp => by
    obtain ⟨q, hq, rfl⟩ := List.mem_map.1 hp
    obtain ⟨j, c', hj', rfl, -⟩ := S.mem_posts.1 hq
    have := (S.fits_w ((unhide HVV).2.fit c' (List.mem_of_getElem? hj'))).1
    have := S.places_len c'.w t
    show (S.places c'.w t).length ≤ 120
    omega)
  have HSD := hide (said_doc (t := t) hc)
  obtain ⟨PL, hPL⟩ : ∃ PL, (S.posts LL t).map S.pt = PL := ⟨_, rfl⟩
  have HPL := hide hPL
  rw [hPL] at HA HSD hn64
  clear hc hPL hLL hdl2
  rw [hp2] at Z2
  have A0 := Z2.c0
  have A1 := Z2.c1
  have A2 := Z2.c2
  have A3 := Z2.c3
  have A4 := Z2.c4
  go_wp2_with fail
  rw [← unhide HW2]
  refine (words8_any ia ka lna ta ic kc lnc tc s sb LL d c W2 Z2.sv (unhide HVV) (unhide HC)).mono ?_
  rintro e w3 ⟨vw, rfl, G3, B3⟩
  obtain ⟨wa, wc, rfl, -⟩ := id G3
  have Z3 := Z2.below B3
  replace BB := below_trans' BB B3
  clear B3 Z2 A0 A1 A2 A3 A4 hp2 HW2
  have A0 := Z3.c0
  have A1 := Z3.c1
  have A2 := Z3.c2
  have A3 := Z3.c3
  have A4 := Z3.c4
  go_wp2_with fail
  refine (has_any ia ka lna ta ic kc lnc tc s sb LL t w3 Z3.sv (unhide HVV)).mono ?_
  rintro e w4 ⟨vp, rfl, P4, B4⟩
  rw [unhide HPL] at P4
  have Z4 := Z3.below B4
  have G4 := G3.below B4
  replace BB := below_trans' BB B4
  clear B4 Z3 G3 A0 A1 A2 A3 A4
  obtain ⟨pa, pc, rfl, hpl4, hpm4, hpn4, -⟩ := P4.open
  go_wp2
  go_loopw [15, 16] (fun ov iv wr => ∃ (k : Nat) (pre : List Int), k ≤ PL.length ∧ iv = .int .i64 k ∧ Hid (pre = said (PL.take k) d) ∧ pre.length ≤ k * 120 ∧ wr.ownsRow w4.heap.size 3 1 ov pre.length (pre.map (Value.int .i64)) ∧ Below w4.heap.size w4 wr) (fun _ iv _ => PL.length - (intOf iv).toNat)
  case atStart => exact ⟨0, [], Nat.zero_le _, rfl, rfl, by simp, World.ownsRow_nil _ _ _ _, Below.refl _ _⟩
  case round =>
    obtain ⟨k, pre, hk, rfl, HP, hpre, hown, hbel⟩ := hrel
    by_cases hlt : k < PL.length
    · obtain ⟨a', c', hv', -, -, -, ho⟩ := (P4.below hbel).open
      simp only [Value.slice.injEq, true_and] at hv'
      obtain ⟨rfl, rfl⟩ := hv'
      obtain ⟨b, off, rfl, hb, hcell⟩ := ho (by omega)
      obtain ⟨p, hx⟩ : ∃ p, PL[k]? = some p := ⟨PL[k], List.getElem?_eq_getElem hlt⟩
      obtain ⟨da, dc, c0, c1, SL⟩ := hcell k p hx
      have hpa := unhide HA p (List.mem_of_getElem? hx)
      have HTS := hide (take_snoc8 hx)
      have hbs := hbel.size
      clear ho hcell hx
      by_cases hpd : p.d = (d : Int)
      · have q1 : (p.d == (d : Int)) = true := by simpa using hpd
        have q2 : decide (p.d = (d : Int)) = true := by simpa using hpd
        have HPD := hide hpd
        clear hpd
        go_wp2_with (at_builtin; refine append_allK rfl _ _ 28 rfl Try.underlying28 hj hj0 hj1 hj2 rfl (pre := pre) (zs := p.a) rfl rfl SL hown hbel hbs (by omega) (by decide) ?_; intro v5 w5 O5 B5 g5)
        go_roundw
        case rel =>
          refine ⟨k + 1, pre ++ p.a, by omega, by go_num, ?_, by simp; omega, O5, B5⟩
          show _ = _
          rw [unhide HTS, said_snoc, ← unhide HP, if_pos (unhide HPD)]
        case measure => simp [intOf]; omega
      · have q1 : (p.d == (d : Int)) = false := by simpa using hpd
        have q2 : decide (p.d = (d : Int)) = false := by simpa using hpd
        have HPD := hide hpd
        clear hpd
        go_wp2
        go_roundw
        case rel =>
          refine ⟨k + 1, pre, by omega, by go_num, ?_, by omega, hown, hbel⟩
          show _ = _
          rw [unhide HTS, said_snoc, ← unhide HP, if_neg (unhide HPD), List.append_nil]
        case measure => simp [intOf]; omega
    · have hpre' : pre = S.places c.w t := by rw [unhide HP, List.take_of_length_le (by omega), unhide HSD]
      have S5 := Sl.owned hown
      rw [hpre'] at S5
      have Z5 := Z4.below hbel
      have G5 := G4.below hbel
      replace BB := below_trans' BB hbel
      clear hown hbel HP hpre hpre' P4 Z4 G4 HA HSD HPL
      obtain ⟨w5, hw5⟩ : ∃ w5, w5 = wr := ⟨_, rfl⟩
      rw [← hw5] at S5 Z5 G5 BB ⊢
      clear hw5
      go_wp2
      go_loopw [17, 18] (fun ov iv wr => ∃ (k : Nat) (pre : List Int), k ≤ c.w.length ∧ iv = .int .i64 k ∧ Hid (pre = S.places (c.w.take k) t) ∧ pre.length ≤ k ∧ wr.ownsRow w5.heap.size 3 1 ov pre.length (pre.map (Value.int .i64)) ∧ Below w5.heap.size w5 wr) (fun _ iv _ => c.w.length - (intOf iv).toNat)
      case atStart => exact ⟨0, [], Nat.zero_le _, rfl, rfl, by simp, World.ownsRow_nil _ _ _ _, Below.refl _ _⟩
      case round =>
        obtain ⟨k2, pre2, hk2, rfl, HP2, hpre2, hown2, hbel2⟩ := hrel
        by_cases hlt2 : k2 < c.w.length
        · obtain ⟨a', c', hv', -, -, -, ho⟩ := (G5.below hbel2).open
          simp only [Value.slice.injEq, true_and] at hv'
          obtain ⟨rfl, rfl⟩ := hv'
          obtain ⟨b, off, rfl, hb, hcell⟩ := ho (by omega)
          obtain ⟨x, hx⟩ : ∃ x, c.w[k2]? = some x := ⟨c.w[k2], List.getElem?_eq_getElem hlt2⟩
          have c0 := hcell k2 x hx
          have HST := hide (S.places_step hx t)
          have hbs := hbel2.size
          clear ho hcell hx
          by_cases hxt : x = t
          · subst hxt
            have q1 : (x.toList == x.toList) = true := by simp
            rw [if_pos rfl] at HST
            go_wp2_with (at_builtin; refine append_oneK (f := Value.int .i64) rfl _ _ 28 rfl Try.underlying28 hj hj0 hj1 hj2 rfl (fun _ => rfl) (pre := pre2) (y := (k2 : Int)) rfl rfl hown2 hbel2 (Nat.le_refl _) hbs (by omega) (by decide) ?_; intro v6 w6 O6 B6 g6 l6)
            clear g6 l6 hown2 hbel2
            go_roundw
            case rel =>
              refine ⟨k2 + 1, pre2 ++ [(k2 : Int)], by omega, by go_num, ?_, by simp; omega, O6, B6⟩
              show _ = _
              rw [unhide HST, ← unhide HP2]
            case measure => simp [intOf]; omega
          · have q1 : (x.toList == t.toList) = false := by rw [K.eq_to]; simpa using hxt
            rw [if_neg hxt, List.append_nil] at HST
            clear hxt
            go_wp2
            go_roundw
            case rel =>
              refine ⟨k2 + 1, pre2, by omega, by go_num, ?_, by omega, hown2, hbel2⟩
              show _ = _
              rw [unhide HST, ← unhide HP2]
            case measure => simp [intOf]; omega
        · have hpre' : pre2 = S.places c.w t := by rw [unhide HP2, List.take_of_length_le (by omega)]
          have S6 := Sl.owned hown2
          rw [hpre'] at S6
          have Z6 := Z5.below hbel2
          have S56 := S5.below hbel2
          replace BB := below_trans' BB hbel2
          clear hown2 hbel2 HP2 hpre2 hpre' Z5 G5 S5
          go_wp2_with fail
          refine (ints_b _ _ _ _ _ S56 S6 true (by simp)).mono ?_
          rintro e w7 ⟨rfl, B7⟩
          have Z7 := Z6.below B7
          replace BB := below_trans' BB B7
          clear B7 Z6 S6 S56
          have A2 := Z7.c2
          obtain ⟨a', c', hv', -, -, -, ho⟩ := Z7.sv.2.2.1.open
          simp only [Value.slice.injEq, true_and] at hv'
          obtain ⟨rfl, rfl⟩ := hv'
          obtain ⟨b, off, rfl, hb, hcell⟩ := ho (by omega)
          have c0 := hcell d (by omega)
          have e0 : s.lens.getD d 0 = (c.w.length : Int) := by
            have := ((unhide HVV).at (unhide HC)).2.2
            rw [List.getD_eq_getElem?_getD, this]; rfl
          rw [e0] at c0
          clear ho hcell e0
          go_wp2
          go_ret
          exact ⟨rfl, BB⟩
end Go.Proofs.Ytdbbhdngohnemaa
