/-
  The contract of the document's own Pack: it answers what the program's does.
-/
import Derived.Test.YtjkaidlgooemoaaPack6
import Derived.Test.YtjkaidlgooemoaaRSmall6
namespace Go.Proofs.Ytjkaidlgooemoaa
open Go.RowKit

theorem leastD_may {L : List Pt} (h : Q.may L = true) : ∀ k, k ≤ L.length → Q.mayB (leastD L k) (L.drop k) = true ∧ 0 ≤ leastD L k ∧ leastD L k ≤ 64
  | 0, _ => ⟨h, by rw [leastD_zero]; omega, by rw [leastD_zero]; omega⟩
  | k + 1, hk => by
    obtain ⟨h1, h2, h3⟩ := leastD_may h k (by omega)
    obtain ⟨p, hp⟩ : ∃ p, L[k]? = some p := ⟨L[k], List.getElem?_eq_getElem (by omega)⟩
    rw [dropPt hp] at h1
    obtain ⟨a1, a2, a3⟩ := Q.may_head h1
    rw [leastD_succ hp]
    exact ⟨a3, by omega, by omega⟩

theorem lastD_least {L : List Pt} : ∀ (n fr : Nat), fr + n ≤ L.length → Q.lastD (leastD L fr - 1) ((L.drop fr).take n) = leastD L (fr + n) - 1
  | 0, fr, _ => by simp [Q.lastD]
  | n + 1, fr, h => by
    obtain ⟨p, hp⟩ : ∃ p, L[fr]? = some p := ⟨L[fr], List.getElem?_eq_getElem (by omega)⟩
    rw [dropPt hp, List.take_succ_cons, Q.lastD]
    have ih := lastD_least (L := L) n (fr + 1) (by omega)
    rw [leastD_succ hp, show p.d + 1 - 1 = p.d by omega, show fr + 1 + n = fr + (n + 1) by omega] at ih
    exact ih

set_option maxHeartbeats 8000000 in
set_option maxRecDepth 100000 in
theorem rpack_any (v : Value) (L : List Pt) (w : World) (h : Pl w v L) :
    Calls Try.prog 21 #[v] w fun e w' => PackEnd w L e w' := by
  obtain ⟨i5, hi5, hz0, hz1, hz2⟩ := info_parts Try.info5
  have H := h
  obtain ⟨a, cap, rfl, hl, hm, hna, -⟩ := h.open
  clear h
  obtain ⟨mb, hmb⟩ : ∃ mb, Q.may L = mb := ⟨_, rfl⟩
  have HM := hide hmb
  cases mb with
  | false =>
    have HF := hide (Q.packA_out hmb)
    clear hmb
    go_enter Try.func21, Try.ntmps21
    go_wp2_with (go_at_call 16; refine (rmay_any _ _ _ H).mono ?_; rintro e w1 ⟨rfl, B1⟩; rw [unhide HM])
    exact bodyPost_ret (v := .tuple #[.slice none 0 0, .int .i64 1]) (by simp [results, Try.results21, go_sem]) rfl ⟨_, by rw [(unhide HF).2], by rw [(unhide HF).1]; exact World.ownsRow_nil _ _ _ _, B1⟩
  | true =>
    have HF := hide (Q.packA_in hmb)
    have hL := Q.may_le hmb
    have hbb := Q.bytes_len hmb
    have HLM := hide (leastD_may hmb)
    have HALL := hide (fun p hp => Q.may_all hmb p hp)
    clear hmb
    go_enter Try.func21, Try.ntmps21
    go_wp2_with (go_at_call 16; refine (rmay_any _ _ _ H).mono ?_; rintro e w1 ⟨rfl, B1⟩; rw [unhide HM])
    go_wp2_with fail
    refine (refPut_any _ _).mono ?_
    rintro e w2 ⟨v2, rfl, O2, B2⟩
    have BB := below_trans' B1 B2
    have O2' := own_mono O2 B1.size
    clear O2 B2 B1
    go_wp2
    go_loopw [5, 6] (fun bv iv wr => ∃ (j fr : Nat) (pre : List Int), fr = 4 * j ∧ fr ≤ L.length + 3 ∧ iv = .int .i64 fr ∧ Q.bytes L = pre ++ Q.blks (17 - j) (leastD L fr - 1) (L.drop fr) ∧ Pb w.heap.size wr bv pre ∧ Below w.heap.size w wr) (fun _ iv _ => L.length + 4 - (intOf iv).toNat)
    case atStart => exact ⟨0, 0, V.putA (L.length : Int), rfl, by omega, rfl, rfl, O2', BB⟩
    case round =>
      obtain ⟨j, fr, pre, hfr, hfl, rfl, heq, hown, hbel⟩ := hrel
      have hpl : pre.length ≤ 50000 := by
        have := congrArg List.length heq
        simp only [List.length_append] at this
        omega
      have HE := hide heq
      have HFR := hide hfr
      clear heq hfr O2' BB
      rename World => w0
      by_cases hlt : fr < L.length
      · have H1 := H.below hbel
        obtain ⟨a', cap', hv', -, -, -, ho⟩ := H1.open
        simp only [Value.slice.injEq, true_and] at hv'
        obtain ⟨rfl, rfl⟩ := hv'
        obtain ⟨b, off, rfl, hb, hc⟩ := ho (by omega)
        obtain ⟨hi, hhi⟩ : ∃ hi, hi = min (fr + 4) L.length := ⟨_, rfl⟩
        obtain ⟨m0, hm0⟩ : ∃ m0, m0 = leastD L fr - 1 := ⟨_, rfl⟩
        have hm0b : -1 ≤ m0 ∧ m0 ≤ 63 := by have := (unhide HLM fr (by omega)).2; omega
        have htk : (L.drop fr).take (hi - fr) = (L.drop fr).take 4 := by
          rw [hhi]
          rcases Nat.le_total (fr + 4) L.length with h4 | h4
          · rw [Nat.min_eq_left h4, show fr + 4 - fr = 4 by omega]
          · rw [Nat.min_eq_right h4, List.take_of_length_le (by simp), List.take_of_length_le (by simp; omega)]
        obtain ⟨G, hG⟩ : ∃ G, G = (L.drop fr).take (hi - fr) := ⟨_, rfl⟩
        have hst := Q.blks_step (f := 16 - j) (m := m0) (L := L.drop fr) (by intro e; have := congrArg List.length e; simp at this; omega)
        rw [show 16 - j + 1 = 17 - j by have := unhide HFR; omega, ← htk, ← hG, List.drop_drop] at hst
        have hld : Q.lastD m0 G = leastD L hi - 1 := by
          rw [hG, hm0, lastD_least _ _ (by omega), show fr + (hi - fr) = hi by omega]
        have hbl := Q.body_len (g := G) (m := m0) (fun p hp => (unhide HALL p (List.mem_of_mem_drop (List.mem_of_mem_take (by rw [hG] at hp; exact hp)))).2)
        have hgl : G.length ≤ 4 := by rw [hG]; simp; omega
        have hnx : leastD L (fr + 4) = leastD L (fr + 4) := rfl
        have HST := hide hst
        have HLD := hide hld
        have HG := hide hG
        have HHI := hide hhi
        have HM0 := hide hm0
        have HC := hide hc
        have hhib : fr < hi ∧ hi ≤ L.length ∧ hi ≤ fr + 4 := by omega
        have HOWN := hide hown
        clear hst hld hG hhi hm0 htk ho hc H1 hnx hown
        go_wp2
        go_loopw [7, 8, 9] (fun bv lv kv wr => ∃ (k : Nat) (bd : List Int) (lw : Int), fr ≤ k ∧ k ≤ hi ∧ kv = .int .i64 k ∧ lv = .int .i64 lw ∧ Hid (lw = (if k = fr then 0 else leastD L k - 1)) ∧ Q.body m0 G = bd ++ Q.body (leastD L k - 1) ((L.drop k).take (hi - k)) ∧ Pb w0.heap.size wr bv bd ∧ Below w0.heap.size w0 wr) (fun _ _ kv _ => hi - (intOf kv).toNat)
        case atStart => exact ⟨fr, [], 0, Nat.le_refl _, by omega, rfl, rfl, hide (by simp), by rw [← unhide HM0, ← unhide HG]; rfl, World.ownsRow_nil _ _ _ _, Below.refl _ _⟩
        case round =>
          obtain ⟨k, bd, lw, hk1, hk2, rfl, rfl, HLW, heq, hbo, hb0⟩ := hrel
          have hbd : bd.length ≤ 2440 := by
            have := congrArg List.length heq
            simp only [List.length_append] at this
            omega
          have HQ := hide heq
          have hbs0 := hb0.size
          clear heq
          by_cases hkh : k < hi
          · obtain ⟨p, hp⟩ : ∃ p, L[k]? = some p := ⟨L[k], List.getElem?_eq_getElem (by omega)⟩
            obtain ⟨da, dc, c0, c1, c2⟩ := unhide HC k p hp
            obtain ⟨hpd, hpp⟩ := unhide HALL p (List.mem_of_getElem? hp)
            have hra := Q.riseA_short hpp
            obtain ⟨m, hmm⟩ : ∃ m, m = leastD L k - 1 := ⟨_, rfl⟩
            have hmb : -1 ≤ m ∧ m ≤ 63 := by have := (unhide HLM k (by omega)).2; omega
            have hdr : (L.drop k).take (hi - k) = p :: (L.drop (k + 1)).take (hi - (k + 1)) := by
              rw [dropPt hp, show hi - k = hi - (k + 1) + 1 by omega, List.take_succ_cons]
            have HDR := hide hdr
            have HSC := hide (leastD_succ hp)
            obtain ⟨d, hd⟩ : ∃ d, p.d = d := ⟨_, rfl⟩
            obtain ⟨pa, hpa⟩ : ∃ l, p.a = l := ⟨_, rfl⟩
            rw [hd] at c0 hpd
            rw [hpa] at c1 c2 hra
            have e0 := cell_keep c0 hb0
            have e1 := cell_keep c1 hb0
            have C2 := c2.below hb0
            have HPD := hide hd
            have HPA := hide hpa
            have HMM := hide hmm
            have h5 : (k : Int) < (fr : Int) + 4 := by omega
            have h6 : (k : Int) < (L.length : Int) := by omega
            have h7 : k < L.length := by omega
            have HC0 := hide c0
            have HBO := hide hbo
            clear hd hpa hdr hp hmm c0 c1 c2 hbo hpp
            by_cases hk0 : k = 0
            · have t3 : decide (0 < k) = false := by simp; omega
              have t4 : decide ((0 : Int) < (k : Int)) = false := by simp; omega
              have hm1 : m = -1 := by rw [unhide HMM, hk0, leastD_zero]; rfl
              have hstep : d - m - 1 = d := by omega
              have HSTEP := hide hstep
              clear hm1 hstep hk0
              go_wp2_with fail
              refine (refRise_any _ _ _ C2).mono ?_
              rintro e w3 ⟨v3, rfl, P3, B3⟩
              have O3 := own_below (unhide HBO) B3
              have BB3 := below_trans' hb0 B3
              have F3 : Far u7 v3 := Far.new (unhide HBO) P3 (Nat.le_refl _)
              obtain ⟨v3a, v3c, hv3, -⟩ := id (Sl.owned P3)
              subst hv3
              go_wp2_with fail
              refine (refPut_any _ _).mono ?_
              rintro e w4 ⟨v4, rfl, P4, B4⟩
              have O4 := own_below O3 B4
              have BB4 := below_trans' BB3 B4
              have P34 := own_below P3 B4
              have S4 := Sl.owned P4
              have m4 := V.putA_len (d)
              obtain ⟨v4a, v4c, hv4, -⟩ := id S4
              subst hv4
              obtain ⟨pu, hpu⟩ : ∃ l, V.putA (d) = l := ⟨_, rfl⟩
              obtain ⟨ra, hra'⟩ : ∃ l, V.riseA pa = l := ⟨_, rfl⟩
              rw [hpu] at S4 m4
              rw [hra'] at P34 F3 hra
              rw [hpu, hra']
              have HPU := hide hpu
              have HRA := hide hra'
              clear hpu hra' P4 P3 O3 BB3 B4 B3 e0 e1 C2
              go_wp2_with (first
                | (at_builtin; refine append_allK rfl (.tmp 68) (.tmp 70) 31 rfl Try.underlying31 hi5 hz0 hz1 hz2 rfl (pre := bd) (zs := pu) rfl rfl S4 O4 BB4 BB4.size (by omega) (by decide) ?_; intro v5 w5 O5 BB5 G5; have S35 := Sl.owned (Far.kept F3 P34 G5))
                | (at_builtin; refine append_allK rfl (.tmp 72) (.tmp 73) 31 rfl Try.underlying31 hi5 hz0 hz1 hz2 rfl (pre := bd ++ pu) (zs := ra) rfl rfl S35 O5 BB5 BB5.size (by simp; omega) (by decide) ?_; intro v6 w6 O6 BB6 G6; have x0 := cell_keep (unhide HC0) BB6))
              go_roundw
              case rel =>
                refine ⟨k + 1, bd ++ pu ++ ra, d, by omega, by omega, by go_num, rfl, hide (by rw [if_neg (by omega), unhide HSC, unhide HPD]; omega), ?_, O6, BB6⟩
                rw [unhide HQ, unhide HDR, Q.body, unhide HSC, unhide HPD, unhide HPA, unhide HRA, ← unhide HMM, show d + 1 - 1 = d by omega, unhide HSTEP, unhide HPU]
                simp
              case measure => simp [intOf]; omega
            · have t3 : decide (0 < k) = true := by simp; omega
              have t4 : decide ((0 : Int) < (k : Int)) = true := by simp; omega
              obtain ⟨q, hq⟩ : ∃ q, L[k - 1]? = some q := ⟨L[k - 1], List.getElem?_eq_getElem (by omega)⟩
              obtain ⟨-, -, g0, -, -⟩ := unhide HC (k - 1) q hq
              have hqd : q.d = m := by
                have := leastD_succ hq
                rw [show k - 1 + 1 = k by omega] at this
                have := unhide HMM
                omega
              rw [hqd] at g0
              have f0 := cell_keep g0 hb0
              clear hq hqd g0
              go_wp2
              go_quiet (fail)
              obtain ⟨wq, hwq⟩ : ∃ wq, wq = wr.drewN nq := ⟨_, rfl⟩
              have BQ : Below wr.heap.size wr wq := by rw [hwq]; exact below_dr (Below.refl _ _) _
              have e0' := cell_keep e0 BQ
              have e1' := cell_keep e1 BQ
              have C2' := C2.below BQ
              rw [← hwq]
              clear hwq f0
              go_wp2_with fail
              refine (refRise_any _ _ _ C2').mono ?_
              rintro e w3 ⟨v3, rfl, P3, B3⟩
              have O3 := own_below (unhide HBO) (below_trans' BQ B3)
              have BB3 := below_trans' hb0 (below_trans' BQ B3)
              have F3 : Far u7 v3 := Far.new (unhide HBO) P3 BQ.size
              obtain ⟨v3a, v3c, hv3, -⟩ := id (Sl.owned P3)
              subst hv3
              go_wp2_with fail
              refine (refPut_any _ _).mono ?_
              rintro e w4 ⟨v4, rfl, P4, B4⟩
              have O4 := own_below O3 B4
              have BB4 := below_trans' BB3 B4
              have P34 := own_below P3 B4
              have S4 := Sl.owned P4
              have m4 := V.putA_len (d - m - 1)
              obtain ⟨v4a, v4c, hv4, -⟩ := id S4
              subst hv4
              obtain ⟨pu, hpu⟩ : ∃ l, V.putA (d - m - 1) = l := ⟨_, rfl⟩
              obtain ⟨ra, hra'⟩ : ∃ l, V.riseA pa = l := ⟨_, rfl⟩
              rw [hpu] at S4 m4
              rw [hra'] at P34 F3 hra
              rw [hpu, hra']
              have HPU := hide hpu
              have HRA := hide hra'
              clear hpu hra' P4 P3 O3 BB3 B4 B3 e0 e1 C2 e0' e1' C2' BQ
              go_wp2_with (first
                | (at_builtin; refine append_allK rfl (.tmp 68) (.tmp 70) 31 rfl Try.underlying31 hi5 hz0 hz1 hz2 rfl (pre := bd) (zs := pu) rfl rfl S4 O4 BB4 BB4.size (by omega) (by decide) ?_; intro v5 w5 O5 BB5 G5; have S35 := Sl.owned (Far.kept F3 P34 G5))
                | (at_builtin; refine append_allK rfl (.tmp 72) (.tmp 73) 31 rfl Try.underlying31 hi5 hz0 hz1 hz2 rfl (pre := bd ++ pu) (zs := ra) rfl rfl S35 O5 BB5 BB5.size (by simp; omega) (by decide) ?_; intro v6 w6 O6 BB6 G6; have x0 := cell_keep (unhide HC0) BB6))
              go_roundw
              case rel =>
                refine ⟨k + 1, bd ++ pu ++ ra, d, by omega, by omega, by go_num, rfl, hide (by rw [if_neg (by omega), unhide HSC, unhide HPD]; omega), ?_, O6, BB6⟩
                rw [unhide HQ, unhide HDR, Q.body, unhide HSC, unhide HPD, unhide HPA, unhide HRA, ← unhide HMM, show d + 1 - 1 = d by omega, unhide HPU]
                simp
              case measure => simp [intOf]; omega
          · have hkk : k = hi := by omega
            have hkf : ¬ (k = fr) := by omega
            have hb1 : (Q.body m0 G) = bd := by rw [unhide HQ, hkk]; simp [Q.body]
            have hex : leastD L k - 1 = Q.lastD m0 G := by rw [unhide HLD, hkk]
            obtain ⟨ld, hld⟩ : ∃ ld, ld = Q.lastD m0 G := ⟨_, rfl⟩
            have hldb : 0 ≤ ld ∧ ld ≤ 63 := by
              obtain ⟨q, hq⟩ : ∃ q, L[k - 1]? = some q := ⟨L[k - 1], List.getElem?_eq_getElem (by omega)⟩
              have h1 := leastD_succ hq
              rw [show k - 1 + 1 = k by omega] at h1
              have h2 := (unhide HALL q (List.mem_of_getElem? hq)).1
              omega
            have hlw : lw = ld := by rw [unhide HLW, if_neg hkf, hex, hld]
            subst hlw
            have HKK := hide hkk
            have HB1 := hide hb1
            have HEX := hide hld
            have O3 := own_below (unhide HOWN) hb0
            have BB3 := below_trans' hbel hb0
            have F3 : Far u5 u7 := Far.new (unhide HOWN) hbo (Nat.le_refl _)
            have hg2 : ¬ ((k : Int) < (fr : Int) + 4) ∨ ¬ ((k : Int) < (L.length : Int)) := by have := unhide HHI; omega
            obtain ⟨u7a, u7c, hu7, -⟩ := id (Pb.sl hbo)
            subst hu7
            have HP3 := hide hbo
            clear hkk hkf hb1 hex hld hbo hbl
            by_cases h5 : (k : Int) < (fr : Int) + 4
            · have h6 : ¬ ((k : Int) < (L.length : Int)) := by omega
              have h7 : ¬ k < L.length := by omega
              clear hg2
              go_wp2_with fail
              refine (refPut_any _ _).mono ?_
              rintro e w4 ⟨v4, rfl, P4, B4⟩
              have O4 := own_below O3 B4
              have BB4 := below_trans' BB3 B4
              have P34 := own_below (unhide HP3) B4
              have S4 := Sl.owned P4
              have n4 : 0 < (V.putA lw).length := by rw [V.putA_in ⟨hldb.1, by omega⟩]; have := (V.put_len lw).1; omega
              have m4 := V.putA_len lw
              obtain ⟨v4a, v4c, hv4, -⟩ := id S4
              subst hv4
              obtain ⟨pl, hpl4⟩ : ∃ l, V.putA lw = l := ⟨_, rfl⟩
              rw [hpl4] at S4 n4 m4
              rw [hpl4]
              have HPL := hide hpl4
              clear hpl4 P4 O3 BB3 B4
              go_wp2_with (at_builtin; refine append_allL rfl (.tmp 80) (.tmp 82) 31 rfl Try.underlying31 hi5 hz0 hz1 hz2 rfl (pre := pre) (zs := pl) rfl rfl S4 n4 O4 BB4 BB4.size (by omega) (by decide) ?_; intro v5 w5 O5 BB5 G5 L5; have P35 := Far.kept F3 P34 G5; have F5 := Far.step F3 P34 L5)
              go_wp2_with fail
              refine (refPut_any _ _).mono ?_
              rintro e w6 ⟨v6, rfl, P6, B6⟩
              have O6 := own_below O5 B6
              have BB6 := below_trans' BB5 B6
              have P36 := own_below P35 B6
              have S6 := Sl.owned P6
              have n6 : 0 < (V.putA (bd.length : Int)).length := by rw [V.putA_in ⟨by omega, by omega⟩]; have := (V.put_len (bd.length : Int)).1; omega
              have m6 := V.putA_len (bd.length : Int)
              obtain ⟨v6a, v6c, hv6, -⟩ := id S6
              subst hv6
              obtain ⟨pn, hpn⟩ : ∃ l, V.putA (bd.length : Int) = l := ⟨_, rfl⟩
              rw [hpn] at S6 n6 m6
              rw [hpn]
              have HPN := hide hpn
              clear hpn P6 O5 BB5 O4 BB4 S4 P34 G5 L5 B6 P35
              go_wp2_with (first
                | (at_builtin; refine append_allL rfl (.tmp 84) (.tmp 87) 31 rfl Try.underlying31 hi5 hz0 hz1 hz2 rfl (pre := pre ++ pl) (zs := pn) rfl rfl S6 n6 O6 BB6 BB6.size (by simp; omega) (by decide) ?_; intro v7 w7 O7 BB7 G7 L7; have P37 := Sl.owned (Far.kept F5 P36 G7))
                | (at_builtin; refine append_allK rfl (.tmp 89) (.tmp 90) 31 rfl Try.underlying31 hi5 hz0 hz1 hz2 rfl (pre := pre ++ pl ++ pn) (zs := bd) rfl rfl P37 O7 BB7 BB7.size (by simp; omega) (by decide) ?_; intro v8 w8 O8 BB8 G8))
              go_roundw
              case rel =>
                refine ⟨j + 1, fr + 4, pre ++ pl ++ pn ++ bd, by have := unhide HFR; omega, by omega, by go_num, ?_, O8, BB8⟩
                have hnext : Q.blks (16 - j) (Q.lastD m0 G) (L.drop (fr + 4)) = Q.blks (16 - j) (leastD L (fr + 4) - 1) (L.drop (fr + 4)) := by
                  rcases Nat.le_total (fr + 4) L.length with h8 | h8
                  · rw [unhide HLD, show hi = fr + 4 by have := unhide HHI; omega]
                  · rw [List.drop_eq_nil_of_le h8, Q.blks_nil, Q.blks_nil]
                rw [unhide HE, ← unhide HM0, unhide HST, hnext, show 17 - (j + 1) = 16 - j by omega, Q.head, unhide HB1, unhide HPN, ← unhide HEX, unhide HPL]
                simp
              case measure => simp [intOf]; omega
            · clear hg2
              go_wp2_with fail
              refine (refPut_any _ _).mono ?_
              rintro e w4 ⟨v4, rfl, P4, B4⟩
              have O4 := own_below O3 B4
              have BB4 := below_trans' BB3 B4
              have P34 := own_below (unhide HP3) B4
              have S4 := Sl.owned P4
              have n4 : 0 < (V.putA lw).length := by rw [V.putA_in ⟨hldb.1, by omega⟩]; have := (V.put_len lw).1; omega
              have m4 := V.putA_len lw
              obtain ⟨v4a, v4c, hv4, -⟩ := id S4
              subst hv4
              obtain ⟨pl, hpl4⟩ : ∃ l, V.putA lw = l := ⟨_, rfl⟩
              rw [hpl4] at S4 n4 m4
              rw [hpl4]
              have HPL := hide hpl4
              clear hpl4 P4 O3 BB3 B4
              go_wp2_with (at_builtin; refine append_allL rfl (.tmp 80) (.tmp 82) 31 rfl Try.underlying31 hi5 hz0 hz1 hz2 rfl (pre := pre) (zs := pl) rfl rfl S4 n4 O4 BB4 BB4.size (by omega) (by decide) ?_; intro v5 w5 O5 BB5 G5 L5; have P35 := Far.kept F3 P34 G5; have F5 := Far.step F3 P34 L5)
              go_wp2_with fail
              refine (refPut_any _ _).mono ?_
              rintro e w6 ⟨v6, rfl, P6, B6⟩
              have O6 := own_below O5 B6
              have BB6 := below_trans' BB5 B6
              have P36 := own_below P35 B6
              have S6 := Sl.owned P6
              have n6 : 0 < (V.putA (bd.length : Int)).length := by rw [V.putA_in ⟨by omega, by omega⟩]; have := (V.put_len (bd.length : Int)).1; omega
              have m6 := V.putA_len (bd.length : Int)
              obtain ⟨v6a, v6c, hv6, -⟩ := id S6
              subst hv6
              obtain ⟨pn, hpn⟩ : ∃ l, V.putA (bd.length : Int) = l := ⟨_, rfl⟩
              rw [hpn] at S6 n6 m6
              rw [hpn]
              have HPN := hide hpn
              clear hpn P6 O5 BB5 O4 BB4 S4 P34 G5 L5 B6 P35
              go_wp2_with (first
                | (at_builtin; refine append_allL rfl (.tmp 84) (.tmp 87) 31 rfl Try.underlying31 hi5 hz0 hz1 hz2 rfl (pre := pre ++ pl) (zs := pn) rfl rfl S6 n6 O6 BB6 BB6.size (by simp; omega) (by decide) ?_; intro v7 w7 O7 BB7 G7 L7; have P37 := Sl.owned (Far.kept F5 P36 G7))
                | (at_builtin; refine append_allK rfl (.tmp 89) (.tmp 90) 31 rfl Try.underlying31 hi5 hz0 hz1 hz2 rfl (pre := pre ++ pl ++ pn) (zs := bd) rfl rfl P37 O7 BB7 BB7.size (by simp; omega) (by decide) ?_; intro v8 w8 O8 BB8 G8))
              go_roundw
              case rel =>
                refine ⟨j + 1, fr + 4, pre ++ pl ++ pn ++ bd, by have := unhide HFR; omega, by omega, by go_num, ?_, O8, BB8⟩
                have hnext : Q.blks (16 - j) (Q.lastD m0 G) (L.drop (fr + 4)) = Q.blks (16 - j) (leastD L (fr + 4) - 1) (L.drop (fr + 4)) := by
                  rcases Nat.le_total (fr + 4) L.length with h8 | h8
                  · rw [unhide HLD, show hi = fr + 4 by have := unhide HHI; omega]
                  · rw [List.drop_eq_nil_of_le h8, Q.blks_nil, Q.blks_nil]
                rw [unhide HE, ← unhide HM0, unhide HST, hnext, show 17 - (j + 1) = 16 - j by omega, Q.head, unhide HB1, unhide HPN, ← unhide HEX, unhide HPL]
                simp
              case measure => simp [intOf]; omega
      · have hfin : Q.bytes L = pre := by rw [unhide HE, List.drop_eq_nil_of_le (by omega), Q.blks_nil, List.append_nil]
        have HFI := hide hfin
        clear hfin
        obtain ⟨xa, xc, hx, -⟩ := id (Pb.sl hown)
        subst hx
        go_wp2
        exact bodyPost_ret (v := .tuple #[.slice xa pre.length xc, .int .i64 0]) (by simp [results, Try.results21, go_sem]) rfl ⟨_, by rw [(unhide HF).2], by rw [(unhide HF).1, unhide HFI]; exact hown, hbel⟩
end Go.Proofs.Ytjkaidlgooemoaa
