/-
  Texts put together: Pack9, Unpack9, Awake9.
-/
import Derived.Test.YtonhehhmnobciaaGreatK19
import Derived.Test.YtonhehhmnobciaaGreatK17
import Derived.Test.YtonhehhmnobciaaGreatK24
import Derived.Test.YtonhehhmnobciaaGreatK09
import Derived.Test.YtonhehhmnobciaaGreatK01
import Derived.Test.YtonhehhmnobciaaGreatK11
/-
  The contract of Pack: the bytes of a segment, or none.
-/
namespace Go.Proofs.YtonhehhmnobciaaGreat
set_option maxRecDepth 100000
open Go.RowKit

/-- '[]byte(s)': a row in new memory that reads as the bytes of s. -/
theorem conv_tb9 (w : World) (s : ByteArray) (hs : s.size ≤ 4294967296) : ∃ v W, (convert 9 33 (.string s)).run Tryz.prog w = .ok v W ∧ Sl .u8 W v (D.nums s) ∧ Below w.heap.size w W ∧ ∀ x n c, v = .slice (some x) n c → w.heap.size ≤ x.block := by
  refine ⟨_, _, run_bytes_of_string w 9 33 5 s Tryz.underlying9 Tryz.underlying33 Tryz.underlying5, ?_, (Below.refl w.heap.size w).drew.alloc (by simp) _, fun x n c hx => ?_⟩
  · refine ⟨_, _, by rw [D.nums_len], ?_, ?_, (fun h => by cases h), fun x hx i hi => ?_⟩
    · rw [D.nums_len]
      exact grownCap_ge w s.size 0 5
    · exact grownCap_le_maxLen w s.size 0 5 (by unfold maxLen; omega)
    · obtain rfl := Option.some.inj hx
      rw [D.nums_len] at hi
      have hi2 : i < s.data.size := hi
      have e1 : (bytesRow s (grownCap w s.size 0 5))[i]? = some (.int .u8 ((D.nums s).getD i 0)) := by
        unfold bytesRow D.nums
        rw [Array.getElem?_append_left (by simpa using hi2)]
        simp [List.getD, Array.getElem?_eq_getElem hi2]
      rw [Addr.add_lit, Nat.zero_add]
      exact box_cell (heap_alloc_new w.drew _) e1
  · simp only [Value.slice.injEq, Option.some.injEq] at hx
    rw [← hx.1]
    simp

def PkEnd (w : World) (s : Sg) (so : Bool) (e : Ending) (w' : World) : Prop :=
  (MayP s so ∧ ∃ v', e = .returned (.tuple #[v', .int .i64 0]) ∧ w'.ownsRow w.heap.size 5 1 v' (F.wrap 83 (J.inner s so)).length ((F.wrap 83 (J.inner s so)).map (Value.int .u8)) ∧ Below w.heap.size w w') ∨
  (¬ MayP s so ∧ e = .returned (.tuple #[.slice none 0 0, .int .i64 1]) ∧ Below w.heap.size w w')

set_option maxRecDepth 100000 in
set_option maxHeartbeats 8000000 in
theorem pack9_any (ia ka lna ta : Option Addr) (ic kc lnc tc : Nat) (s : Sg) (so : Bool) (w : World) (h : Sv w (.slice ia s.ids.length ic) (.slice ka s.keys.length kc) (.slice lna s.lens.length lnc) (.slice ta s.ts.length tc) s) (hsz : ∀ x ∈ s.ids, x.size ≤ maxLen) (htl : s.ts.length ≤ 3518437208780) :
    Calls Tryz.prog 7 #[.agg #[.slice ia s.ids.length ic, .slice ka s.keys.length kc, .slice lna s.lens.length lnc, .slice ta s.ts.length tc, .bool so]] w (PkEnd w s so) := by
  obtain ⟨i0, hi, hz0, hz1, hz2⟩ := info_parts Tryz.info5
  obtain ⟨i9, hi9, hz90, hz91, hz92⟩ := info_parts Tryz.infoS
  obtain ⟨W, hW⟩ : ∃ W, W = w.alloc (.cells #[.slice ia s.ids.length ic, .slice ka s.keys.length kc, .slice lna s.lens.length lnc, .slice ta s.ts.length tc, .bool so] 29) := ⟨_, rfl⟩
  have BW : Below w.heap.size w W := by rw [hW]; exact below_alloc _ _
  have X0 : W.heap[w.heap.size]? = some (.cells #[.slice ia s.ids.length ic, .slice ka s.keys.length kc, .slice lna s.lens.length lnc, .slice ta s.ts.length tc, .bool so] 29 (0, 0)) := by rw [hW]; exact heap_alloc_new w _
  have HV := h.below BW
  have HW := hide hW
  have CM := segMay_all ia ka lna ta ic kc lnc tc s so W HV hsz htl
  clear hW h hsz
  by_cases hM : MayP s so
  case neg =>
    have HM := hide hM
    clear hM
    go_enter Tryz.func7, Tryz.ntmps7
    go_wp2_with fail
    rw [← unhide HW]
    refine CM.mono ?_
    rintro e w1 ⟨r1, rfl, hr1, B1⟩
    obtain rfl : r1 = false := by
      cases r1 with
      | false => rfl
      | true => exact absurd (hr1.1 rfl) (unhide HM)
    have BB1 := below_trans' BW B1
    clear hr1 CM X0 HV B1
    go_wp2
    go_ret2
    exact .inr ⟨unhide HM, rfl, BB1⟩
  have HMP := hide hM
  have HID := hide hM.id
  have HKEY := hide hM.key
  have HLEN := hide hM.ln
  have HMAY := hide hM.words
  have HQ : Hid (∀ t ∈ s.ts, Q.may t.p = true) := hide (fun t ht => (hM.may t ht).1)
  have hn64 := hM.heads.n64
  have hnk : s.keys.length ≤ 64 := by have := hM.heads.nk; omega
  have hnl : s.lens.length ≤ 64 := by have := hM.heads.nl; omega
  have htn : s.ts.length ≤ 200 := by have := D.may_len hM.words; rw [List.length_map] at this; exact this
  clear hM
  go_enter Tryz.func7, Tryz.ntmps7
  go_wp2_with fail
  rw [← unhide HW]
  refine CM.mono ?_
  rintro e w1 ⟨r1, rfl, hr1, B1⟩
  obtain rfl : r1 = true := hr1.2 (unhide HMP)
  have X1 := box_below X0 B1
  have V1 := HV.below B1
  have BB1 := below_trans' BW B1
  clear hr1 X0 HV B1
  cases so with
  | false =>
    have x0 : w1.cell? ⟨w.heap.size, 0, none⟩ = some (.slice ia s.ids.length ic) := box_cell X1 rfl
    have x4 : w1.cell? ⟨w.heap.size, 4, none⟩ = some (.bool false) := box_cell X1 rfl
    have ltX : w.heap.size < w1.heap.size := (Array.getElem?_eq_some_iff.1 X1).1
    have neX : w.heap.size ≠ w1.heap.size := by omega
    obtain ⟨w2, hw2⟩ : ∃ w2, w2 = w1.alloc (.cells #[.int .u8 0] 5) := ⟨_, rfl⟩
    obtain ⟨B, hB⟩ : ∃ B, B = w1.heap.size := ⟨_, rfl⟩
    have O2 : w2.ownsRow B 5 1 (.slice (some ⟨B, 0, none⟩) 1 1) [(0 : Int)].length ([(0 : Int)].map (Value.int .u8)) := by rw [hw2, hB]; exact (World.ownsRow_lit (base := w1.heap.size) (size := 1) (e := 5) w1 #[.int .u8 0] 1 (Nat.le_refl _) (by unfold maxLen; omega) rfl)
    have B2 : Below B w1 w2 := by rw [hw2, hB]; exact below_alloc _ _
    have sB1 : B ≤ w1.heap.size := by omega
    have sB2 : B ≤ w2.heap.size := by have := B2.size; omega
    have hXB : w.heap.size < B := by omega
    have HW2 := hide hw2
    have HB := hide hB
    obtain ⟨p1, hp1⟩ : ∃ p1, V.put (s.ids.length : Int) = p1 := ⟨_, rfl⟩
    have hp1l : 1 ≤ p1.length ∧ p1.length ≤ 5 := by rw [← hp1]; exact V.put_len _
    have CP := put_any (s.ids.length : Int) w2
    rw [V.putA_in ⟨by omega, by omega⟩, hp1] at CP
    have HP1 := hide hp1
    have HX1 := hide X1
    have HV1 := hide V1
    clear hw2 hB hp1 X1 V1 CM
    go_wp2_with fail
    rw [← unhide HW2, ← unhide HB]
    refine CP.mono ?_
    rintro e w3 ⟨v3, rfl, O3, B3⟩
    have P3 := Sl.owned O3
    obtain ⟨pa3, pc3, hv3, -⟩ := id P3
    subst hv3
    have OB3 := own_below O2 B3
    have BB3 : Below B w1 w3 := B2.trans (B3.mono sB2)
    have y0 : w3.cell? ⟨w.heap.size, 0, none⟩ = some (.slice ia s.ids.length ic) := (BB3.cell (p := ⟨w.heap.size, 0, none⟩) hXB).trans x0
    clear O3 B3 O2 B2 CP x0 x4
    go_wp2_with (at_builtin; refine append_all rfl _ _ 33 rfl Tryz.underlying33 hi hz0 hz1 hz2 rfl (B := B) (w0 := w1) (pre := [(0 : Int)]) (zs := p1) rfl rfl P3 OB3 BB3 (by have := BB3.size; omega) (by simp; omega) (by decide) ?_; intro v4 w4 O4 B4; have y0' : w4.cell? ⟨w.heap.size, 0, none⟩ = some (.slice ia s.ids.length ic) := (B4.cell (p := ⟨w.heap.size, 0, none⟩) hXB).trans (box_cell (unhide HX1) rfl))
    obtain ⟨cur0, hc0⟩ : ∃ c, [(0 : Int)] ++ p1 = c := ⟨_, rfl⟩
    have hc0l : cur0.length ≤ 6 := by rw [← hc0]; simp; omega
    rw [hc0] at O4
    have HC0 := hide hc0
    obtain ⟨ia', ic', hvi, -, -, -, hoI⟩ := (unhide HV1).1.open
    simp only [Value.slice.injEq, true_and] at hvi
    obtain ⟨rfl, rfl⟩ := hvi
    clear hc0 OB3 BB3 P3 y0 y0'
    go_loopw [4, 31] (fun bv iv wr => ∃ (k : Nat) (cur : List Int), k ≤ s.ids.length ∧ iv = .int .i64 k ∧ Hid (cur = cur0 ++ (s.ids.take k).flatMap (fun x => J.piece (D.nums x))) ∧ cur.length ≤ 6 + k * 21 ∧ wr.ownsRow B 5 1 bv cur.length (cur.map (Value.int .u8)) ∧ Below B w1 wr) (fun _ iv _ => s.ids.length - (intOf iv).toNat)
    case atStart => exact ⟨0, cur0, Nat.zero_le _, rfl, by (show _ = _; simp), by omega, O4, B4⟩
    case round =>
      obtain ⟨k, cur, hk, rfl, HC, hcl, hown, hbel⟩ := hrel
      have hwr := hbel.size
      by_cases hlt : k < s.ids.length
      · obtain ⟨b, off, rfl, hb, hc⟩ := hoI (by omega)
        obtain ⟨x, hx⟩ : ∃ x, s.ids[k]? = some x := ⟨s.ids[k], List.getElem?_eq_getElem hlt⟩
        have d0 := (hbel.cell (p := ⟨b, off + k, none⟩) (by have := unhide HB; simp only; omega)).trans (hc k x hx)
        obtain ⟨hx1, hx2⟩ := unhide HID x (List.mem_of_getElem? hx)
        obtain ⟨cv, Wc, hcv, Sc, Bc, Lc⟩ := conv_tb9 wr x (by omega)
        obtain ⟨ca, cc, hcvv, -⟩ := id Sc
        subst hcvv
        have HSN := hide (take_snoc8 hx)
        obtain ⟨m, hm⟩ : ∃ m, D.nums x = m := ⟨_, rfl⟩
        have hml : 1 ≤ m.length ∧ m.length ≤ 16 := by rw [← hm, D.nums_len]; omega
        rw [hm] at hcv Sc
        have CA := addPiece_any B _ _ cur m Wc (own_below hown Bc) (by have := Bc.size; omega) Sc (by omega) (fun y n c e => fun e2 => by have h1 := (hown.lt _ e2).2; have h2 := Lc y n c (by rw [← hm] at e; exact e); omega) (by omega) (by omega)
        have HM := hide hm
        have HBC := hide Bc
        have HOW := hide hown
        clear hc hx hm Sc Bc Lc hown
        go_wp2_with fail
        refine CA.mono ?_
        rintro e w5 ⟨v5, rfl, O5, G5, L5⟩
        have B5 : Below B w1 w5 := (hbel.trans ((unhide HBC).mono (by omega))).grown G5 (by have := (unhide HBC).size; omega) (fun j hj => ((own_below (unhide HOW) (unhide HBC)).lt j hj).1)
        clear CA G5 L5
        go_wp2
        go_roundw
        case rel =>
          refine ⟨k + 1, cur ++ J.piece m, by omega, by go_num, ?_, ?_, O5, B5⟩
          · show _ = _
            rw [unhide HSN, List.flatMap_append, ← List.append_assoc, ← unhide HC]
            simp [unhide HM]
          · have h5 := (V.put_len (m.length : Int)).2
            simp only [J.piece, List.length_append]
            omega
        case measure => simp [intOf]; omega
      · have HC1 : Hid (cur = cur0 ++ s.ids.flatMap (fun x => J.piece (D.nums x))) := by
          show _ = _
          rw [unhide HC, List.take_of_length_le (by omega)]
        have hcl1 : cur.length ≤ 1400 := by omega
        have x1 : wr.cell? ⟨w.heap.size, 1, none⟩ = some (.slice ka s.keys.length kc) := (hbel.cell (p := ⟨w.heap.size, 1, none⟩) hXB).trans (box_cell (unhide HX1) rfl)
        have HNK := hide ((unhide HV1).2.1)
        have CN := addNumbers_any B _ _ cur s.keys wr hown (by omega) ((unhide HV1).2.1.below (unhide HB ▸ hbel)) (fun y n c e hn => by have := (unhide HV1).2.1.blk y n c e hn; have := unhide HB; omega) (by omega) (by omega) (fun n hn => by have := unhide HKEY n hn; omega)
        have HOW := hide hown
        have HBL := hide hbel
        clear hown hbel HC hoI
        go_wp2_with fail
        refine CN.mono ?_
        rintro e w5 ⟨v5, rfl, O5, G5, L5⟩
        have B5 : Below B w1 w5 := (unhide HBL).grown G5 (by omega) (fun j hj => ((unhide HOW).lt j hj).1)
        obtain ⟨cur2, hc2⟩ : ∃ c, cur ++ V.enc s.keys = c := ⟨_, rfl⟩
        have hc2l : cur2.length ≤ 1720 := by rw [← hc2]; have := V.enc_len s.keys; simp; omega
        rw [hc2] at O5
        have HC2 := hide hc2
        have sB5 := B5.size
        have x2 : w5.cell? ⟨w.heap.size, 2, none⟩ = some (.slice lna s.lens.length lnc) := (B5.cell (p := ⟨w.heap.size, 2, none⟩) hXB).trans (box_cell (unhide HX1) rfl)
        have CN2 := addNumbers_any B _ _ cur2 s.lens w5 O5 (by omega) ((unhide HV1).2.2.1.below (unhide HB ▸ B5)) (fun y n c e hn => by have := (unhide HV1).2.2.1.blk y n c e hn; have := unhide HB; omega) (by omega) (by omega) (fun n hn => by have := unhide HLEN n hn; omega)
        have HO5 := hide O5
        clear hc2 O5 G5 L5 CN x1
        go_wp2_with fail
        refine CN2.mono ?_
        rintro e w6 ⟨v6, rfl, O6, G6, L6⟩
        have B6 : Below B w1 w6 := B5.grown G6 (by omega) (fun j hj => ((unhide HO5).lt j hj).1)
        obtain ⟨cur3, hc3⟩ : ∃ c, cur2 ++ V.enc s.lens = c := ⟨_, rfl⟩
        have hc3l : cur3.length ≤ 2040 := by rw [← hc3]; have := V.enc_len s.lens; simp; omega
        rw [hc3] at O6
        have HC3 := hide hc3
        have x3 : w6.cell? ⟨w.heap.size, 3, none⟩ = some (.slice ta s.ts.length tc) := (B6.cell (p := ⟨w.heap.size, 3, none⟩) hXB).trans (box_cell (unhide HX1) rfl)
        obtain ⟨ta', tc', hvt, -, -, -, hoT⟩ := (unhide HV1).2.2.2.open
        simp only [Value.slice.injEq, true_and] at hvt
        obtain ⟨rfl, rfl⟩ := hvt
        have sB6 := B6.size
        clear hc3 G6 L6 CN2 x2 B5 HO5
        rename World => w6'
        go_wp2
        go_loopw [7, 51] (fun ov iv wr => ∃ (k : Nat) (ws : List ByteArray), k ≤ s.ts.length ∧ iv = .int .i64 k ∧ Hid (ws = (s.ts.take k).map (·.t)) ∧ ws.length ≤ k ∧ wr.ownsRow B 5 1 v6 cur3.length (cur3.map (Value.int .u8)) ∧ wr.ownsRow B 9 1 ov ws.length (ws.map Value.string) ∧ Below B w1 wr) (fun _ iv _ => s.ts.length - (intOf iv).toNat)
        case atStart => exact ⟨0, [], Nat.zero_le _, rfl, by (show _ = _; simp), Nat.zero_le _, O6, World.ownsRow_nil _ _ _ _, B6⟩
        case round =>
          clear O6 B6 x3
          obtain ⟨k, ws, hk, rfl, HWS, hwl, hown, how, hbel⟩ := hrel
          have hwr := hbel.size
          by_cases hlt : k < s.ts.length
          · obtain ⟨b, off, rfl, hb, hc⟩ := hoT (by omega)
            obtain ⟨t, hx⟩ : ∃ t, s.ts[k]? = some t := ⟨s.ts[k], List.getElem?_eq_getElem hlt⟩
            obtain ⟨pa, pc, c0, c1, P2⟩ := hc k t hx
            have hbB : b < B := by have := unhide HB; omega
            have d0 := (hbel.cell (p := ⟨b, off + k * 2, none⟩) hbB).trans c0
            have d1 := (hbel.cell (p := ⟨b, off + k * 2 + 1, none⟩) hbB).trans c1
            have HSN := hide (take_snoc8 hx)
            have OWA := how.alloc (.cells #[.string t.t, .slice pa t.p.length pc] 57)
            have OBA := hown.alloc (.cells #[.string t.t, .slice pa t.p.length pc] 57)
            have BLA := hbel.alloc (show B ≤ wr.heap.size by omega) (.cells #[.string t.t, .slice pa t.p.length pc] 57)
            clear hc hx c0 c1 P2 how hown hbel
            go_wp2_with (at_builtin; refine append_oneL (f := Value.string) rfl _ _ 25 rfl Tryz.underlying25 hi9 hz90 hz91 hz92 rfl (fun _ => rfl) (pre := ws) (v := u7) t.t rfl rfl (by simp) OWA (by simp; omega) (by omega) (by omega) ?_; intro g3 q3 w7 O7 g7 l7)
            have OB7 := OBA.kept g7 (own_apart OBA OWA (by decide))
            have B7 := BLA.grown g7 (by simp; omega) (fun j hj => (OWA.lt j hj).1)
            have HO7 := hide O7
            have HOB7 := hide OB7
            clear O7 OB7 g7 l7 OWA OBA BLA
            go_wp2
            go_roundw
            case rel =>
              refine ⟨k + 1, ws ++ [t.t], by omega, by go_num, ?_, by simp; omega, unhide HOB7, unhide HO7, B7⟩
              show _ = _
              rw [unhide HSN, List.map_append, ← unhide HWS]
              rfl
            case measure => simp [intOf]; omega
          · have HW9 : Hid (ws = s.ts.map (·.t)) := by
              show _ = _
              rw [unhide HWS, List.take_of_length_le (by omega)]
            obtain ⟨zr, hzr⟩ : ∃ zr, D.pack ws = zr := ⟨_, rfl⟩
            have hzl : 1 ≤ zr.length ∧ zr.length ≤ 7000 := by
              rw [← hzr]
              have h1 := (D.pack_len (l := ws) (by rw [unhide HW9]; exact unhide HMAY)).1
              have h2 := D.pack_small ws
              omega
            have CD := dpack_any _ ws wr (Gl.owned how) zr hzr
            obtain ⟨oa, oc, hov, -⟩ := id (Gl.owned how)
            subst hov
            have HZR := hide hzr
            have HOW := hide hown
            clear hzr how hown HWS
            go_wp2_with fail
            refine CD.mono ?_
            rintro e w7 ⟨v7, rfl, O7, B7⟩
            have P7 := Sl.owned O7
            obtain ⟨ra, rc, hv7, -⟩ := id P7
            subst hv7
            have OB7 := own_below (unhide HOW) B7
            have hs7 := B7.size
            have CA := addPiece_any B v6 _ cur3 zr w7 OB7 (by omega) P7 (by omega) (fun y n c e => fun e2 => by
              have h1 := ((unhide HOW).lt _ e2).2
              simp only [Value.slice.injEq] at e
              have h2 := own_first O7 e.1
              omega) (by omega) (by omega)
            have HO7 := hide OB7
            have BL7 : Below B w1 w7 := hbel.trans (B7.mono (by omega))
            clear O7 OB7 P7 CD B7 hbel
            go_wp2_with fail
            refine CA.mono ?_
            rintro e w8 ⟨v8, rfl, O8, G8, L8⟩
            have B8 : Below B w1 w8 := BL7.grown G8 (by omega) (fun j hj => ((unhide HO7).lt j hj).1)
            obtain ⟨cur4, hc4⟩ : ∃ c, cur3 ++ J.piece zr = c := ⟨_, rfl⟩
            have hc4l : cur4.length ≤ 9045 := by
              rw [← hc4]
              have h5 := (V.put_len (zr.length : Int)).2
              simp only [J.piece, List.length_append]
              omega
            rw [hc4] at O8
            have HC4 := hide hc4
            have HIN : Hid (cur4 ++ s.ts.flatMap (fun t => J.piece (Q.packA t.p)) = J.inner s false) := by
              show _ = _
              rw [← unhide HC4, ← unhide HZR, unhide HW9, ← unhide HC3, ← unhide HC2, unhide HC1, ← unhide HC0, ← unhide HP1]
              unfold J.inner
              simp [List.append_assoc]
            have x3 : w8.cell? ⟨w.heap.size, 3, none⟩ = some (.slice ta s.ts.length tc) := (B8.cell (p := ⟨w.heap.size, 3, none⟩) hXB).trans (box_cell (unhide HX1) rfl)
            have sB8 := B8.size
            clear hc4 G8 L8 CA BL7
            rename World => w8'
            go_wp2
            go_loopw [4, 68] (fun bv iv wr => ∃ (k : Nat) (cur : List Int), k ≤ s.ts.length ∧ iv = .int .i64 k ∧ Hid (cur = cur4 ++ (s.ts.take k).flatMap (fun t => J.piece (Q.packA t.p))) ∧ wr.ownsRow B 5 1 bv cur.length (cur.map (Value.int .u8)) ∧ Below B w1 wr) (fun _ iv _ => s.ts.length - (intOf iv).toNat)
            case atStart => exact ⟨0, cur4, Nat.zero_le _, rfl, by (show _ = _; simp), O8, B8⟩
            case round =>
              clear O8 B8 x3
              obtain ⟨k, cur, hk, rfl, HCU, hown, hbel⟩ := hrel
              have hwr := hbel.size
              have hcl : cur.length ≤ 65536 := by
                have e := congrArg List.length (unhide HIN)
                rw [List.length_append] at e
                have b := (unhide HMP).bytes
                have e2 : (s.ts.flatMap (fun t => J.piece (Q.packA t.p))).length = ((s.ts.take k).flatMap (fun t => J.piece (Q.packA t.p))).length + ((s.ts.drop k).flatMap (fun t => J.piece (Q.packA t.p))).length := by rw [← List.length_append, ← List.flatMap_append, List.take_append_drop]
                rw [unhide HCU, List.length_append]
                omega
              by_cases hlt : k < s.ts.length
              · obtain ⟨b, off, rfl, hb, hc⟩ := hoT (by omega)
                obtain ⟨t, hx⟩ : ∃ t, s.ts[k]? = some t := ⟨s.ts[k], List.getElem?_eq_getElem hlt⟩
                obtain ⟨pa, pc, c0, c1, P2⟩ := hc k t hx
                have hbB : b < B := by have := unhide HB; omega
                have d0 := (hbel.cell (p := ⟨b, off + k * 2, none⟩) hbB).trans c0
                have d1 := (hbel.cell (p := ⟨b, off + k * 2 + 1, none⟩) hbB).trans c1
                have HSN := hide (take_snoc8 hx)
                have hqm := unhide HQ t (List.mem_of_getElem? hx)
                obtain ⟨w9, hw9⟩ : ∃ w9, w9 = wr.alloc (.cells #[.string t.t, .slice pa t.p.length pc] 57) := ⟨_, rfl⟩
                have BA : Below wr.heap.size wr w9 := by rw [hw9]; exact below_alloc _ _
                have OBA := own_below hown BA
                have BLA : Below B w1 w9 := hbel.trans (BA.mono (by omega))
                have CQ := ppack_any _ t.p w9 ((P2.below (unhide HB ▸ hbel)).below BA)
                obtain ⟨zq, hzq⟩ : ∃ z, Q.packA t.p = z := ⟨_, rfl⟩
                have hzl : 1 ≤ zq.length ∧ zq.length ≤ 50000 := by
                  rw [← hzq]
                  have e : Q.packA t.p = Q.bytes t.p := by simp [Q.packA, hqm]
                  rw [e]
                  have h1 := Q.bytes_len hqm
                  have h2 : 1 ≤ (V.putA (t.p.length : Int)).length := by
                    have := Q.may_le hqm
                    rw [V.putA_in ⟨by omega, by omega⟩]
                    exact (V.put_len _).1
                  have h3 : (Q.bytes t.p).length = (V.putA (t.p.length : Int)).length + (Q.blks 17 (-1) t.p).length := by unfold Q.bytes; rw [List.length_append]
                  omega
                obtain ⟨qe, hqe⟩ : ∃ e, Q.packE t.p = e := ⟨_, rfl⟩
                unfold PackEnd at CQ
                rw [hzq, hqe] at CQ
                have HZQ := hide hzq
                have HW9 := hide hw9
                have sA := BA.size
                clear hc hx c0 c1 P2 hown hbel hw9 hzq hqe BA
                go_wp2_with fail
                rw [← unhide HW9]
                refine CQ.mono ?_
                rintro e w10 ⟨v10, rfl, O10, B10⟩
                have P10 := Sl.owned O10
                obtain ⟨ra, rc, hv10, -⟩ := id P10
                subst hv10
                have OB10 := own_below OBA B10
                have hs10 := B10.size
                have hs9 := BLA.size
                have CA := addPiece_any B u4 _ cur zq w10 OB10 (by omega) P10 (by omega) (fun y n c e => fun e2 => by
                  have h1 := (OBA.lt _ e2).2
                  simp only [Value.slice.injEq] at e
                  have h2 := own_first O10 e.1
                  omega) (by omega) (by omega)
                have HO10 := hide OB10
                have BL10 : Below B w1 w10 := BLA.trans (B10.mono (by omega))
                clear O10 OB10 P10 CQ B10 BLA OBA
                go_wp2_with fail
                refine CA.mono ?_
                rintro e w11 ⟨v11, rfl, O11, G11, L11⟩
                have B11 : Below B w1 w11 := BL10.grown G11 (by omega) (fun j hj => ((unhide HO10).lt j hj).1)
                clear CA G11 L11 BL10
                go_wp2
                go_roundw
                case rel =>
                  refine ⟨k + 1, cur ++ J.piece zq, by omega, by go_num, ?_, O11, B11⟩
                  show _ = _
                  rw [unhide HSN, List.flatMap_append, ← List.append_assoc, ← unhide HCU]
                  simp [unhide HZQ]
                case measure => simp [intOf]; omega
              · have hfin : cur = J.inner s false := by
                  rw [unhide HCU, List.take_of_length_le (by omega), unhide HIN]
                have CW := wrap_any 83 _ cur wr (Sl.owned hown) (by rw [hfin]; exact J.inner_byt (unhide HMP)) (by omega)
                rw [hfin] at CW
                obtain ⟨ba, bc, hvb, -⟩ := id (Sl.owned hown)
                subst hvb
                have HF := hide hfin
                have BBR : Below w.heap.size w wr := BB1.trans (hbel.mono (by omega))
                clear hfin HCU hown hbel
                go_wp2_with fail
                refine CW.mono ?_
                rintro e w12 ⟨v12, rfl, O12, B12⟩
                have BB12 := below_trans' BBR B12
                have HO12 := hide (own_mono O12 (show w.heap.size ≤ wr.heap.size from BBR.size))
                clear O12 B12 CW
                go_wp2
                go_ret2
                exact .inl ⟨unhide HMP, _, rfl, unhide HO12, BB12⟩
  | true =>
    have x0 : w1.cell? ⟨w.heap.size, 0, none⟩ = some (.slice ia s.ids.length ic) := box_cell X1 rfl
    have x4 : w1.cell? ⟨w.heap.size, 4, none⟩ = some (.bool true) := box_cell X1 rfl
    have ltX : w.heap.size < w1.heap.size := (Array.getElem?_eq_some_iff.1 X1).1
    have neX : w.heap.size ≠ w1.heap.size := by omega
    obtain ⟨w2, hw2⟩ : ∃ w2, w2 = w1.alloc (.cells #[.int .u8 1] 5) := ⟨_, rfl⟩
    obtain ⟨B, hB⟩ : ∃ B, B = w1.heap.size := ⟨_, rfl⟩
    have O2 : w2.ownsRow B 5 1 (.slice (some ⟨B, 0, none⟩) 1 1) [(1 : Int)].length ([(1 : Int)].map (Value.int .u8)) := by rw [hw2, hB]; exact (World.ownsRow_lit (base := w1.heap.size) (size := 1) (e := 5) w1 #[.int .u8 1] 1 (Nat.le_refl _) (by unfold maxLen; omega) rfl)
    have B2 : Below B w1 w2 := by rw [hw2, hB]; exact below_alloc _ _
    have sB1 : B ≤ w1.heap.size := by omega
    have sB2 : B ≤ w2.heap.size := by have := B2.size; omega
    have hXB : w.heap.size < B := by omega
    have HW2 := hide hw2
    have HB := hide hB
    obtain ⟨p1, hp1⟩ : ∃ p1, V.put (s.ids.length : Int) = p1 := ⟨_, rfl⟩
    have hp1l : 1 ≤ p1.length ∧ p1.length ≤ 5 := by rw [← hp1]; exact V.put_len _
    have CP := put_any (s.ids.length : Int) w2
    rw [V.putA_in ⟨by omega, by omega⟩, hp1] at CP
    have HP1 := hide hp1
    have HX1 := hide X1
    have HV1 := hide V1
    clear hw2 hB hp1 X1 V1 CM
    go_wp2_with fail
    rw [← unhide HW2, ← unhide HB]
    refine CP.mono ?_
    rintro e w3 ⟨v3, rfl, O3, B3⟩
    have P3 := Sl.owned O3
    obtain ⟨pa3, pc3, hv3, -⟩ := id P3
    subst hv3
    have OB3 := own_below O2 B3
    have BB3 : Below B w1 w3 := B2.trans (B3.mono sB2)
    have y0 : w3.cell? ⟨w.heap.size, 0, none⟩ = some (.slice ia s.ids.length ic) := (BB3.cell (p := ⟨w.heap.size, 0, none⟩) hXB).trans x0
    clear O3 B3 O2 B2 CP x0 x4
    go_wp2_with (at_builtin; refine append_all rfl _ _ 33 rfl Tryz.underlying33 hi hz0 hz1 hz2 rfl (B := B) (w0 := w1) (pre := [(1 : Int)]) (zs := p1) rfl rfl P3 OB3 BB3 (by have := BB3.size; omega) (by simp; omega) (by decide) ?_; intro v4 w4 O4 B4; have y0' : w4.cell? ⟨w.heap.size, 0, none⟩ = some (.slice ia s.ids.length ic) := (B4.cell (p := ⟨w.heap.size, 0, none⟩) hXB).trans (box_cell (unhide HX1) rfl))
    obtain ⟨cur0, hc0⟩ : ∃ c, [(1 : Int)] ++ p1 = c := ⟨_, rfl⟩
    have hc0l : cur0.length ≤ 6 := by rw [← hc0]; simp; omega
    rw [hc0] at O4
    have HC0 := hide hc0
    obtain ⟨ia', ic', hvi, -, -, -, hoI⟩ := (unhide HV1).1.open
    simp only [Value.slice.injEq, true_and] at hvi
    obtain ⟨rfl, rfl⟩ := hvi
    clear hc0 OB3 BB3 P3 y0 y0'
    go_loopw [4, 31] (fun bv iv wr => ∃ (k : Nat) (cur : List Int), k ≤ s.ids.length ∧ iv = .int .i64 k ∧ Hid (cur = cur0 ++ (s.ids.take k).flatMap (fun x => J.piece (D.nums x))) ∧ cur.length ≤ 6 + k * 21 ∧ wr.ownsRow B 5 1 bv cur.length (cur.map (Value.int .u8)) ∧ Below B w1 wr) (fun _ iv _ => s.ids.length - (intOf iv).toNat)
    case atStart => exact ⟨0, cur0, Nat.zero_le _, rfl, by (show _ = _; simp), by omega, O4, B4⟩
    case round =>
      obtain ⟨k, cur, hk, rfl, HC, hcl, hown, hbel⟩ := hrel
      have hwr := hbel.size
      by_cases hlt : k < s.ids.length
      · obtain ⟨b, off, rfl, hb, hc⟩ := hoI (by omega)
        obtain ⟨x, hx⟩ : ∃ x, s.ids[k]? = some x := ⟨s.ids[k], List.getElem?_eq_getElem hlt⟩
        have d0 := (hbel.cell (p := ⟨b, off + k, none⟩) (by have := unhide HB; simp only; omega)).trans (hc k x hx)
        obtain ⟨hx1, hx2⟩ := unhide HID x (List.mem_of_getElem? hx)
        obtain ⟨cv, Wc, hcv, Sc, Bc, Lc⟩ := conv_tb9 wr x (by omega)
        obtain ⟨ca, cc, hcvv, -⟩ := id Sc
        subst hcvv
        have HSN := hide (take_snoc8 hx)
        obtain ⟨m, hm⟩ : ∃ m, D.nums x = m := ⟨_, rfl⟩
        have hml : 1 ≤ m.length ∧ m.length ≤ 16 := by rw [← hm, D.nums_len]; omega
        rw [hm] at hcv Sc
        have CA := addPiece_any B _ _ cur m Wc (own_below hown Bc) (by have := Bc.size; omega) Sc (by omega) (fun y n c e => fun e2 => by have h1 := (hown.lt _ e2).2; have h2 := Lc y n c (by rw [← hm] at e; exact e); omega) (by omega) (by omega)
        have HM := hide hm
        have HBC := hide Bc
        have HOW := hide hown
        clear hc hx hm Sc Bc Lc hown
        go_wp2_with fail
        refine CA.mono ?_
        rintro e w5 ⟨v5, rfl, O5, G5, L5⟩
        have B5 : Below B w1 w5 := (hbel.trans ((unhide HBC).mono (by omega))).grown G5 (by have := (unhide HBC).size; omega) (fun j hj => ((own_below (unhide HOW) (unhide HBC)).lt j hj).1)
        clear CA G5 L5
        go_wp2
        go_roundw
        case rel =>
          refine ⟨k + 1, cur ++ J.piece m, by omega, by go_num, ?_, ?_, O5, B5⟩
          · show _ = _
            rw [unhide HSN, List.flatMap_append, ← List.append_assoc, ← unhide HC]
            simp [unhide HM]
          · have h5 := (V.put_len (m.length : Int)).2
            simp only [J.piece, List.length_append]
            omega
        case measure => simp [intOf]; omega
      · have HC1 : Hid (cur = cur0 ++ s.ids.flatMap (fun x => J.piece (D.nums x))) := by
          show _ = _
          rw [unhide HC, List.take_of_length_le (by omega)]
        have hcl1 : cur.length ≤ 1400 := by omega
        have x1 : wr.cell? ⟨w.heap.size, 1, none⟩ = some (.slice ka s.keys.length kc) := (hbel.cell (p := ⟨w.heap.size, 1, none⟩) hXB).trans (box_cell (unhide HX1) rfl)
        have HNK := hide ((unhide HV1).2.1)
        have CN := addNumbers_any B _ _ cur s.keys wr hown (by omega) ((unhide HV1).2.1.below (unhide HB ▸ hbel)) (fun y n c e hn => by have := (unhide HV1).2.1.blk y n c e hn; have := unhide HB; omega) (by omega) (by omega) (fun n hn => by have := unhide HKEY n hn; omega)
        have HOW := hide hown
        have HBL := hide hbel
        clear hown hbel HC hoI
        go_wp2_with fail
        refine CN.mono ?_
        rintro e w5 ⟨v5, rfl, O5, G5, L5⟩
        have B5 : Below B w1 w5 := (unhide HBL).grown G5 (by omega) (fun j hj => ((unhide HOW).lt j hj).1)
        obtain ⟨cur2, hc2⟩ : ∃ c, cur ++ V.enc s.keys = c := ⟨_, rfl⟩
        have hc2l : cur2.length ≤ 1720 := by rw [← hc2]; have := V.enc_len s.keys; simp; omega
        rw [hc2] at O5
        have HC2 := hide hc2
        have sB5 := B5.size
        have x2 : w5.cell? ⟨w.heap.size, 2, none⟩ = some (.slice lna s.lens.length lnc) := (B5.cell (p := ⟨w.heap.size, 2, none⟩) hXB).trans (box_cell (unhide HX1) rfl)
        have CN2 := addNumbers_any B _ _ cur2 s.lens w5 O5 (by omega) ((unhide HV1).2.2.1.below (unhide HB ▸ B5)) (fun y n c e hn => by have := (unhide HV1).2.2.1.blk y n c e hn; have := unhide HB; omega) (by omega) (by omega) (fun n hn => by have := unhide HLEN n hn; omega)
        have HO5 := hide O5
        clear hc2 O5 G5 L5 CN x1
        go_wp2_with fail
        refine CN2.mono ?_
        rintro e w6 ⟨v6, rfl, O6, G6, L6⟩
        have B6 : Below B w1 w6 := B5.grown G6 (by omega) (fun j hj => ((unhide HO5).lt j hj).1)
        obtain ⟨cur3, hc3⟩ : ∃ c, cur2 ++ V.enc s.lens = c := ⟨_, rfl⟩
        have hc3l : cur3.length ≤ 2040 := by rw [← hc3]; have := V.enc_len s.lens; simp; omega
        rw [hc3] at O6
        have HC3 := hide hc3
        have x3 : w6.cell? ⟨w.heap.size, 3, none⟩ = some (.slice ta s.ts.length tc) := (B6.cell (p := ⟨w.heap.size, 3, none⟩) hXB).trans (box_cell (unhide HX1) rfl)
        obtain ⟨ta', tc', hvt, -, -, -, hoT⟩ := (unhide HV1).2.2.2.open
        simp only [Value.slice.injEq, true_and] at hvt
        obtain ⟨rfl, rfl⟩ := hvt
        have sB6 := B6.size
        clear hc3 G6 L6 CN2 x2 B5 HO5
        rename World => w6'
        go_wp2
        go_loopw [7, 51] (fun ov iv wr => ∃ (k : Nat) (ws : List ByteArray), k ≤ s.ts.length ∧ iv = .int .i64 k ∧ Hid (ws = (s.ts.take k).map (·.t)) ∧ ws.length ≤ k ∧ wr.ownsRow B 5 1 v6 cur3.length (cur3.map (Value.int .u8)) ∧ wr.ownsRow B 9 1 ov ws.length (ws.map Value.string) ∧ Below B w1 wr) (fun _ iv _ => s.ts.length - (intOf iv).toNat)
        case atStart => exact ⟨0, [], Nat.zero_le _, rfl, by (show _ = _; simp), Nat.zero_le _, O6, World.ownsRow_nil _ _ _ _, B6⟩
        case round =>
          clear O6 B6 x3
          obtain ⟨k, ws, hk, rfl, HWS, hwl, hown, how, hbel⟩ := hrel
          have hwr := hbel.size
          by_cases hlt : k < s.ts.length
          · obtain ⟨b, off, rfl, hb, hc⟩ := hoT (by omega)
            obtain ⟨t, hx⟩ : ∃ t, s.ts[k]? = some t := ⟨s.ts[k], List.getElem?_eq_getElem hlt⟩
            obtain ⟨pa, pc, c0, c1, P2⟩ := hc k t hx
            have hbB : b < B := by have := unhide HB; omega
            have d0 := (hbel.cell (p := ⟨b, off + k * 2, none⟩) hbB).trans c0
            have d1 := (hbel.cell (p := ⟨b, off + k * 2 + 1, none⟩) hbB).trans c1
            have HSN := hide (take_snoc8 hx)
            have OWA := how.alloc (.cells #[.string t.t, .slice pa t.p.length pc] 57)
            have OBA := hown.alloc (.cells #[.string t.t, .slice pa t.p.length pc] 57)
            have BLA := hbel.alloc (show B ≤ wr.heap.size by omega) (.cells #[.string t.t, .slice pa t.p.length pc] 57)
            clear hc hx c0 c1 P2 how hown hbel
            go_wp2_with (at_builtin; refine append_oneL (f := Value.string) rfl _ _ 25 rfl Tryz.underlying25 hi9 hz90 hz91 hz92 rfl (fun _ => rfl) (pre := ws) (v := u7) t.t rfl rfl (by simp) OWA (by simp; omega) (by omega) (by omega) ?_; intro g3 q3 w7 O7 g7 l7)
            have OB7 := OBA.kept g7 (own_apart OBA OWA (by decide))
            have B7 := BLA.grown g7 (by simp; omega) (fun j hj => (OWA.lt j hj).1)
            have HO7 := hide O7
            have HOB7 := hide OB7
            clear O7 OB7 g7 l7 OWA OBA BLA
            go_wp2
            go_roundw
            case rel =>
              refine ⟨k + 1, ws ++ [t.t], by omega, by go_num, ?_, by simp; omega, unhide HOB7, unhide HO7, B7⟩
              show _ = _
              rw [unhide HSN, List.map_append, ← unhide HWS]
              rfl
            case measure => simp [intOf]; omega
          · have HW9 : Hid (ws = s.ts.map (·.t)) := by
              show _ = _
              rw [unhide HWS, List.take_of_length_le (by omega)]
            obtain ⟨zr, hzr⟩ : ∃ zr, D.pack ws = zr := ⟨_, rfl⟩
            have hzl : 1 ≤ zr.length ∧ zr.length ≤ 7000 := by
              rw [← hzr]
              have h1 := (D.pack_len (l := ws) (by rw [unhide HW9]; exact unhide HMAY)).1
              have h2 := D.pack_small ws
              omega
            have CD := dpack_any _ ws wr (Gl.owned how) zr hzr
            obtain ⟨oa, oc, hov, -⟩ := id (Gl.owned how)
            subst hov
            have HZR := hide hzr
            have HOW := hide hown
            clear hzr how hown HWS
            go_wp2_with fail
            refine CD.mono ?_
            rintro e w7 ⟨v7, rfl, O7, B7⟩
            have P7 := Sl.owned O7
            obtain ⟨ra, rc, hv7, -⟩ := id P7
            subst hv7
            have OB7 := own_below (unhide HOW) B7
            have hs7 := B7.size
            have CA := addPiece_any B v6 _ cur3 zr w7 OB7 (by omega) P7 (by omega) (fun y n c e => fun e2 => by
              have h1 := ((unhide HOW).lt _ e2).2
              simp only [Value.slice.injEq] at e
              have h2 := own_first O7 e.1
              omega) (by omega) (by omega)
            have HO7 := hide OB7
            have BL7 : Below B w1 w7 := hbel.trans (B7.mono (by omega))
            clear O7 OB7 P7 CD B7 hbel
            go_wp2_with fail
            refine CA.mono ?_
            rintro e w8 ⟨v8, rfl, O8, G8, L8⟩
            have B8 : Below B w1 w8 := BL7.grown G8 (by omega) (fun j hj => ((unhide HO7).lt j hj).1)
            obtain ⟨cur4, hc4⟩ : ∃ c, cur3 ++ J.piece zr = c := ⟨_, rfl⟩
            have hc4l : cur4.length ≤ 9045 := by
              rw [← hc4]
              have h5 := (V.put_len (zr.length : Int)).2
              simp only [J.piece, List.length_append]
              omega
            rw [hc4] at O8
            have HC4 := hide hc4
            have HIN : Hid (cur4 ++ s.ts.flatMap (fun t => J.piece (Q.packA t.p)) = J.inner s true) := by
              show _ = _
              rw [← unhide HC4, ← unhide HZR, unhide HW9, ← unhide HC3, ← unhide HC2, unhide HC1, ← unhide HC0, ← unhide HP1]
              unfold J.inner
              simp [List.append_assoc]
            have x3 : w8.cell? ⟨w.heap.size, 3, none⟩ = some (.slice ta s.ts.length tc) := (B8.cell (p := ⟨w.heap.size, 3, none⟩) hXB).trans (box_cell (unhide HX1) rfl)
            have sB8 := B8.size
            clear hc4 G8 L8 CA BL7
            rename World => w8'
            go_wp2
            go_loopw [4, 68] (fun bv iv wr => ∃ (k : Nat) (cur : List Int), k ≤ s.ts.length ∧ iv = .int .i64 k ∧ Hid (cur = cur4 ++ (s.ts.take k).flatMap (fun t => J.piece (Q.packA t.p))) ∧ wr.ownsRow B 5 1 bv cur.length (cur.map (Value.int .u8)) ∧ Below B w1 wr) (fun _ iv _ => s.ts.length - (intOf iv).toNat)
            case atStart => exact ⟨0, cur4, Nat.zero_le _, rfl, by (show _ = _; simp), O8, B8⟩
            case round =>
              clear O8 B8 x3
              obtain ⟨k, cur, hk, rfl, HCU, hown, hbel⟩ := hrel
              have hwr := hbel.size
              have hcl : cur.length ≤ 65536 := by
                have e := congrArg List.length (unhide HIN)
                rw [List.length_append] at e
                have b := (unhide HMP).bytes
                have e2 : (s.ts.flatMap (fun t => J.piece (Q.packA t.p))).length = ((s.ts.take k).flatMap (fun t => J.piece (Q.packA t.p))).length + ((s.ts.drop k).flatMap (fun t => J.piece (Q.packA t.p))).length := by rw [← List.length_append, ← List.flatMap_append, List.take_append_drop]
                rw [unhide HCU, List.length_append]
                omega
              by_cases hlt : k < s.ts.length
              · obtain ⟨b, off, rfl, hb, hc⟩ := hoT (by omega)
                obtain ⟨t, hx⟩ : ∃ t, s.ts[k]? = some t := ⟨s.ts[k], List.getElem?_eq_getElem hlt⟩
                obtain ⟨pa, pc, c0, c1, P2⟩ := hc k t hx
                have hbB : b < B := by have := unhide HB; omega
                have d0 := (hbel.cell (p := ⟨b, off + k * 2, none⟩) hbB).trans c0
                have d1 := (hbel.cell (p := ⟨b, off + k * 2 + 1, none⟩) hbB).trans c1
                have HSN := hide (take_snoc8 hx)
                have hqm := unhide HQ t (List.mem_of_getElem? hx)
                obtain ⟨w9, hw9⟩ : ∃ w9, w9 = wr.alloc (.cells #[.string t.t, .slice pa t.p.length pc] 57) := ⟨_, rfl⟩
                have BA : Below wr.heap.size wr w9 := by rw [hw9]; exact below_alloc _ _
                have OBA := own_below hown BA
                have BLA : Below B w1 w9 := hbel.trans (BA.mono (by omega))
                have CQ := ppack_any _ t.p w9 ((P2.below (unhide HB ▸ hbel)).below BA)
                obtain ⟨zq, hzq⟩ : ∃ z, Q.packA t.p = z := ⟨_, rfl⟩
                have hzl : 1 ≤ zq.length ∧ zq.length ≤ 50000 := by
                  rw [← hzq]
                  have e : Q.packA t.p = Q.bytes t.p := by simp [Q.packA, hqm]
                  rw [e]
                  have h1 := Q.bytes_len hqm
                  have h2 : 1 ≤ (V.putA (t.p.length : Int)).length := by
                    have := Q.may_le hqm
                    rw [V.putA_in ⟨by omega, by omega⟩]
                    exact (V.put_len _).1
                  have h3 : (Q.bytes t.p).length = (V.putA (t.p.length : Int)).length + (Q.blks 17 (-1) t.p).length := by unfold Q.bytes; rw [List.length_append]
                  omega
                obtain ⟨qe, hqe⟩ : ∃ e, Q.packE t.p = e := ⟨_, rfl⟩
                unfold PackEnd at CQ
                rw [hzq, hqe] at CQ
                have HZQ := hide hzq
                have HW9 := hide hw9
                have sA := BA.size
                clear hc hx c0 c1 P2 hown hbel hw9 hzq hqe BA
                go_wp2_with fail
                rw [← unhide HW9]
                refine CQ.mono ?_
                rintro e w10 ⟨v10, rfl, O10, B10⟩
                have P10 := Sl.owned O10
                obtain ⟨ra, rc, hv10, -⟩ := id P10
                subst hv10
                have OB10 := own_below OBA B10
                have hs10 := B10.size
                have hs9 := BLA.size
                have CA := addPiece_any B u4 _ cur zq w10 OB10 (by omega) P10 (by omega) (fun y n c e => fun e2 => by
                  have h1 := (OBA.lt _ e2).2
                  simp only [Value.slice.injEq] at e
                  have h2 := own_first O10 e.1
                  omega) (by omega) (by omega)
                have HO10 := hide OB10
                have BL10 : Below B w1 w10 := BLA.trans (B10.mono (by omega))
                clear O10 OB10 P10 CQ B10 BLA OBA
                go_wp2_with fail
                refine CA.mono ?_
                rintro e w11 ⟨v11, rfl, O11, G11, L11⟩
                have B11 : Below B w1 w11 := BL10.grown G11 (by omega) (fun j hj => ((unhide HO10).lt j hj).1)
                clear CA G11 L11 BL10
                go_wp2
                go_roundw
                case rel =>
                  refine ⟨k + 1, cur ++ J.piece zq, by omega, by go_num, ?_, O11, B11⟩
                  show _ = _
                  rw [unhide HSN, List.flatMap_append, ← List.append_assoc, ← unhide HCU]
                  simp [unhide HZQ]
                case measure => simp [intOf]; omega
              · have hfin : cur = J.inner s true := by
                  rw [unhide HCU, List.take_of_length_le (by omega), unhide HIN]
                have CW := wrap_any 83 _ cur wr (Sl.owned hown) (by rw [hfin]; exact J.inner_byt (unhide HMP)) (by omega)
                rw [hfin] at CW
                obtain ⟨ba, bc, hvb, -⟩ := id (Sl.owned hown)
                subst hvb
                have HF := hide hfin
                have BBR : Below w.heap.size w wr := BB1.trans (hbel.mono (by omega))
                clear hfin HCU hown hbel
                go_wp2_with fail
                refine CW.mono ?_
                rintro e w12 ⟨v12, rfl, O12, B12⟩
                have BB12 := below_trans' BBR B12
                have HO12 := hide (own_mono O12 (show w.heap.size ≤ wr.heap.size from BBR.size))
                clear O12 B12 CW
                go_wp2
                go_ret2
                exact .inl ⟨unhide HMP, _, rfl, unhide HO12, BB12⟩
end Go.Proofs.YtonhehhmnobciaaGreat

/-
  The contract of Unpack: the segment whose bytes these are, or why they are none.
-/
namespace Go.Proofs.YtonhehhmnobciaaGreat
set_option maxRecDepth 100000
open Go.RowKit

theorem J.many_len {α : Type} {rd : Nat → Sr → α × Sr} : ∀ (n i : Nat) (s : Sr), (J.many rd n i s).1.length ≤ n
  | 0, _, _ => Nat.le_refl _
  | n + 1, i, s => by
    rw [J.many]
    split
    · simp
    · have := J.many_len (rd := rd) n (i + 1) (rd i s).2
      simp only [List.length_cons]
      omega
theorem J.ts_len (s : Sr) : (J.sg s).ts.length ≤ 200 := by
  have h1 := J.many_len (rd := J.term (J.ws s)) (J.ws s).length 0 (J.s6 s)
  have h2 := J.words_len (J.s5 s)
  exact Nat.le_trans h1 h2
theorem J.many_all {α : Type} {rd : Nat → Sr → α × Sr} {P : α → Prop} {m : Nat} (h : ∀ i s, s.left.length ≤ m → P (rd i s).1 ∧ (rd i s).2.left.length ≤ m) : ∀ (n i : Nat) (s : Sr), s.left.length ≤ m → ∀ x ∈ (J.many rd n i s).1, P x
  | 0, _, _, _, x, hx => by cases hx
  | n + 1, i, s, hs, x, hx => by
    rw [J.many] at hx
    split at hx
    · cases hx
    · simp only [List.mem_cons] at hx
      rcases hx with rfl | hx
      · exact (h i s hs).1
      · exact J.many_all h n (i + 1) _ (h i s hs).2 x hx
theorem J.cut_short (s : Sr) : (J.cut s).1.length ≤ s.left.length ∧ (J.cut s).2.left.length ≤ s.left.length := by
  have := J.number_short s
  unfold J.cut
  split
  · exact ⟨Nat.zero_le _, this⟩
  · simp only [List.length_take, List.length_drop]
    omega
theorem J.ids_size {s : Sr} (hs : s.left.length ≤ 1000000) : ∀ x ∈ (J.sg s).ids, x.size ≤ 1000000 := by
  have h1 : (J.s1 s).left.length ≤ 1000000 := by
    unfold J.s1 J.flag
    split
    · simp
    · rename_i c r e
      rw [e] at hs
      split
      · exact hs
      · simp only [List.length_cons] at hs
        simp only
        omega
  have h2 : (J.s2 s).left.length ≤ 1000000 := Nat.le_trans (J.number_short _) h1
  refine J.many_all (rd := fun _ => J.text) (m := 1000000) (fun i s' hs' => ?_) _ _ _ h2
  have := J.cut_short s'
  refine ⟨?_, Nat.le_trans this.2 hs'⟩
  show (strOfNums (J.cut s').1).size ≤ 1000000
  have e : (strOfNums (J.cut s').1).size = (J.cut s').1.length := by
    have h1 : (strOfNums (J.cut s').1).size = (strOfNums (J.cut s').1).data.toList.length := by simp
    rw [h1, ← Lib.toList_data (strOfNums (J.cut s').1), Lib.strOfNums_toList]
    simp [Lib.bytesOf]
  omega

/-- What is read of all of the bytes within is a segment that may be. -/
def J.Good (r : List Int) : Prop := (J.s7 ⟨r, false⟩).bad = false ∧ (J.s7 ⟨r, false⟩).left = [] ∧ MayP (J.sg ⟨r, false⟩) (J.so ⟨r, false⟩)
/-- What Unpack tells. -/
def UnP (l : List Int) (g : Sg) (so : Bool) (er : Int) : Prop :=
  ((F.opened l 83).2 ≠ 0 ∧ er = (F.opened l 83).2 ∧ g = Sg.none ∧ so = false) ∨
  ((F.opened l 83).2 = 0 ∧ J.Good (F.opened l 83).1 ∧ er = 0 ∧ g = J.sg ⟨(F.opened l 83).1, false⟩ ∧ so = J.so ⟨(F.opened l 83).1, false⟩) ∨
  ((F.opened l 83).2 = 0 ∧ ¬ J.Good (F.opened l 83).1 ∧ er = 5 ∧ g = Sg.none ∧ so = false)
def UnEnd9 (w : World) (l : List Int) (e : Ending) (w' : World) : Prop :=
  ∃ iv kv lv tv so er g, e = .returned (.tuple #[.agg #[iv, kv, lv, tv, .bool so], .int .i64 er]) ∧ Sv w' iv kv lv tv g ∧ UnP l g so er ∧ Below w.heap.size w w'
theorem un_err {w w1 : World} {l : List Int} {er : Int} {b : Nat} {a0 a1 a2 a3 a4 : Value} (hp : UnP l Sg.none false er) (h : Below w.heap.size w w1) (hb : w.heap.size ≤ b) :
    UnEnd9 w l (.returned (.tuple #[.agg #[.slice none 0 0, .slice none 0 0, .slice none 0 0, .slice none 0 0, .bool false], .int .i64 er])) (five w1 b a0 a1 a2 a3 a4) :=
  ⟨_, _, _, _, _, _, _, rfl, Sv.none _, hp, five_below _ _ _ _ _ h hb⟩
theorem un_err2 {w w1 : World} {l : List Int} {er : Int} {b : Nat} {a0 a1 a2 a3 a4 : Value} {o : Obj} (hp : UnP l Sg.none false er) (h : Below w.heap.size w w1) (hb : w.heap.size ≤ b) :
    UnEnd9 w l (.returned (.tuple #[.agg #[.slice none 0 0, .slice none 0 0, .slice none 0 0, .slice none 0 0, .bool false], .int .i64 er])) ((five w1 b a0 a1 a2 a3 a4).alloc o) :=
  ⟨_, _, _, _, _, _, _, rfl, Sv.none _, hp, below_all (five_below _ _ _ _ _ h hb) _⟩
theorem own_last {w : World} {B e K n m cap : Nat} {xs : List Value} {wa : Option Addr} (h : w.ownsRow B e K (.slice wa m cap) n xs) {x : Addr} (hx : wa = some x) : x.block < w.heap.size := by
  subst hx
  rcases h.2 with ⟨h1, -⟩ | ⟨g, c, cur, h1, hb, hg, -⟩
  · cases h1
  · simp only [Value.slice.injEq, Option.some.injEq] at h1
    rw [h1.1]
    exact (Array.getElem?_eq_some_iff.1 hg).1

set_option maxRecDepth 100000 in
set_option maxHeartbeats 4000000 in
theorem unpack9_any (v : Value) (l : List Int) (w : World) (h : Sl .u8 w v l) (hbt : V.Byt l) :
    Calls Tryz.prog 8 #[v] w (UnEnd9 w l) := by
  obtain ⟨W, hW⟩ : ∃ W, W = w.alloc (.cells #[.slice none 0 0, .slice none 0 0, .slice none 0 0, .slice none 0 0, .bool false] 29) := ⟨_, rfl⟩
  have BW : Below w.heap.size w W := by rw [hW]; exact below_alloc _ _
  have X0 : W.heap[w.heap.size]? = some (.cells #[.slice none 0 0, .slice none 0 0, .slice none 0 0, .slice none 0 0, .bool false] 29 (0, 0)) := by rw [hW]; exact heap_alloc_new w _
  have HW := hide hW
  have CO := open_any v l 83 W (h.below BW) hbt
  have hcs := F.opened_cases (kind := 83) hbt
  clear hW h
  rcases hcs with hcs | ⟨he0, hlen, hbyt, -⟩
  · have key : ∃ er, F.opened l 83 = ([], er) ∧ er ≠ 0 := by
      rcases hcs with e | e
      · exact ⟨5, e, by decide⟩
      · exact ⟨6, e, by decide⟩
    obtain ⟨er, he, hne⟩ := key
    rw [he] at CO
    have HP : Hid (UnP l Sg.none false er) := hide (.inl ⟨by rw [he]; exact hne, by rw [he], rfl, rfl⟩)
    have q0 : (er != 0) = true := by simpa using hne
    have q1 : ¬ er = 0 := hne
    clear he hcs
    go_enter Tryz.func8, Tryz.ntmps8
    go_wp2_with fail
    rw [← unhide HW]
    refine CO.mono ?_
    rintro e w1 ⟨v1, rfl, O1, B1⟩
    have X1 := box_below X0 B1
    have BB1 := below_trans' BW B1
    have x0 := box_cell X1 (j := 0) rfl
    have x1 := box_cell X1 (j := 1) rfl
    have x2 := box_cell X1 (j := 2) rfl
    have x3 := box_cell X1 (j := 3) rfl
    have x4 := box_cell X1 (j := 4) rfl
    have f0 := bfro X1 0
    have f1 := bfro X1 1
    have f2 := bfro X1 2
    have f3 := bfro X1 3
    have f4 := bfro X1 4
    clear X1 B1 O1 CO X0
    go_wp2
    exact bodyPost_ret (v := .tuple #[.agg #[.slice none 0 0, .slice none 0 0, .slice none 0 0, .slice none 0 0, .bool false], .int .i64 er]) (by simp [results, Tryz.results8, go_sem, x0, x1, x2, x3, x4]) rfl (un_err (unhide HP) BB1 (Nat.le_refl _))
  · have HE0 := hide he0
    rw [show F.opened l 83 = ((F.opened l 83).1, (F.opened l 83).2) from rfl, he0] at CO
    clear he0
    obtain ⟨r, hr⟩ : ∃ r, (F.opened l 83).1 = r := ⟨_, rfl⟩
    obtain ⟨s, hs⟩ : ∃ s : Sr, s = ⟨r, false⟩ := ⟨_, rfl⟩
    rw [hr] at hlen hbyt CO
    have hsl : s.left = r := by rw [hs]
    have hsb : s.bad = false := by rw [hs]
    have hids : ∀ x ∈ (J.sg s).ids, x.size ≤ maxLen := fun x hx => by
      have := J.ids_size (show s.left.length ≤ 1000000 by rw [hsl]; omega) x hx
      unfold maxLen
      omega
    have htl : (J.sg s).ts.length ≤ 3518437208780 := by have := J.ts_len s; omega
    obtain ⟨gg, hgg⟩ : ∃ gg, J.sg s = gg := ⟨_, rfl⟩
    obtain ⟨so, hso⟩ : ∃ so, J.so s = so := ⟨_, rfl⟩
    obtain ⟨sz, hs7⟩ : ∃ sz, J.s7 s = sz := ⟨_, rfl⟩
    rw [hgg] at hids htl
    have HGG := hide hgg
    have HSO := hide hso
    have HS7 := hide hs7
    clear hgg hso hs7
    have HS := hide hs
    have HRR := hide hr
    have HBY := hide hbyt
    clear hs hr hbyt
    go_enter Tryz.func8, Tryz.ntmps8
    go_wp2_with fail
    rw [← unhide HW]
    refine CO.mono ?_
    rintro e w1 ⟨v1, rfl, O1, B1⟩
    have X1 := box_below X0 B1
    have BB1 := below_trans' BW B1
    obtain ⟨aw, cw, hvw, -⟩ := id (Sl.owned O1)
    subst hvw
    obtain ⟨w2, hw2⟩ : ∃ w2, w2 = w1.alloc (.cells #[.slice aw r.length cw, .bool false] 62) := ⟨_, rfl⟩
    have B2 : Below w1.heap.size w1 w2 := by rw [hw2]; exact below_alloc _ _
    have X2 := box_below X1 B2
    have BB2 := below_trans' BB1 B2
    have b2 : Sb w1.heap.size w1.heap.size w2 s := ⟨aw, cw, by rw [hsl, hsb, hw2]; exact heap_alloc_new w1 _, by rw [hsl]; exact (Sl.owned O1).below B2, by rw [hsl]; exact unhide HBY, by rw [hsl]; omega, fun x hx => own_last O1 hx⟩
    have sz2 : w1.heap.size < w2.heap.size := by rw [hw2]; simp
    have sz1 := B1.size
    have CS := seg9_any w1.heap.size w1.heap.size s w2 b2 (by omega)
    rw [unhide HGG, unhide HSO, unhide HS7] at CS
    have HW2 := hide hw2
    have hws : w.heap.size < w1.heap.size := (Array.getElem?_eq_some_iff.1 X1).1
    clear hw2 b2 O1 B1 B2 CO hsl hsb
    go_wp2_with fail
    rw [← unhide HW2]
    refine CS.mono ?_
    rintro e w3 ⟨iv, kv, lv, tv, rfl, V3, b3, G3⟩
    obtain ⟨ia, ka, la, ta, ic, kc, lc, tc, rfl, rfl, rfl, rfl⟩ := V3.sv.shape
    have X3 := box_grown X2 G3 (by simp; omega)
    have BB3 : Below w.heap.size w w3 := BB2.trans ((below_of_grown G3 (show w1.heap.size ≤ w1.heap.size from Nat.le_refl _) (by omega)).mono (by omega))
    obtain ⟨w4, hw4⟩ : ∃ w4, w4 = w3.alloc (.cells #[.slice ia gg.ids.length ic, .slice ka gg.keys.length kc, .slice la gg.lens.length lc, .slice ta gg.ts.length tc, .bool so] 29) := ⟨_, rfl⟩
    obtain ⟨ub, hub⟩ : ∃ ub, ub = w3.heap.size := ⟨_, rfl⟩
    have B4 : Below w3.heap.size w3 w4 := by rw [hw4]; exact below_alloc _ _
    have U4 : w4.heap[ub]? = some (.cells #[.slice ia gg.ids.length ic, .slice ka gg.keys.length kc, .slice la gg.lens.length lc, .slice ta gg.ts.length tc, .bool so] 29 (0, 0)) := by rw [hw4, hub]; exact heap_alloc_new w3 _
    obtain ⟨ab, cb, hbx3, hsl3, -⟩ := id b3
    have y0 : w3.cell? ⟨w1.heap.size, 0, none⟩ = some (.slice ab sz.left.length cb) := box_cell hbx3 rfl
    have y1 : w3.cell? ⟨w1.heap.size, 1, none⟩ = some (.bool sz.bad) := box_cell hbx3 rfl
    have sz3 := G3.size
    have ltg : w1.heap.size < w3.heap.size := by omega
    have ltR : w.heap.size < w3.heap.size := by omega
    have BB4 := below_trans' BB3 B4
    have X4 := box_below X3 B4
    obtain ⟨bad, hbad⟩ : ∃ bad, sz.bad = bad := ⟨_, rfl⟩
    obtain ⟨ln, hln⟩ : ∃ ln, sz.left.length = ln := ⟨_, rfl⟩
    rw [hbad] at y1
    rw [hln] at y0
    have HBAD := hide hbad
    have HLN := hide hln
    have HW4 := hide hw4
    have HUB := hide hub
    have V4 := V3.below B4
    have HV4 := hide V4
    have HV3 := hide V3
    clear hbad hln hw4 hub hbx3 hsl3 b3 CS X2 BB2 G3 V3 V4
    cases bad with
    | true =>
      have x0 := box_cell X3 (j := 0) rfl
      have x1 := box_cell X3 (j := 1) rfl
      have x2 := box_cell X3 (j := 2) rfl
      have x3 := box_cell X3 (j := 3) rfl
      have x4 := box_cell X3 (j := 4) rfl
      have f0 := bfro X3 0
      have f1 := bfro X3 1
      have f2 := bfro X3 2
      have f3 := bfro X3 3
      have f4 := bfro X3 4
      have HP : Hid (UnP l Sg.none false 5) := hide (.inr (.inr ⟨unhide HE0, (show ¬ J.Good (F.opened l 83).1 from fun h9 => by (have := h9.1; rw [unhide HRR, ← unhide HS, unhide HS7, unhide HBAD] at this; cases this)), rfl, rfl, rfl⟩))
      have HB3 := hide BB3
      clear X3 BB3 X4 U4 B4 BB4
      go_wp2
      exact bodyPost_ret (v := .tuple #[.agg #[.slice none 0 0, .slice none 0 0, .slice none 0 0, .slice none 0 0, .bool false], .int .i64 5]) (by simp [results, Tryz.results8, go_sem, x0, x1, x2, x3, x4, ltR]) rfl (un_err2 (unhide HP) (unhide HB3) (Nat.le_refl _))
    | false =>
      by_cases hl0 : ln = 0
      case neg =>
        have q1 : (0 : Int) < (ln : Int) := by omega
        have x0 := box_cell X3 (j := 0) rfl
        have x1 := box_cell X3 (j := 1) rfl
        have x2 := box_cell X3 (j := 2) rfl
        have x3 := box_cell X3 (j := 3) rfl
        have x4 := box_cell X3 (j := 4) rfl
        have f0 := bfro X3 0
        have f1 := bfro X3 1
        have f2 := bfro X3 2
        have f3 := bfro X3 3
        have f4 := bfro X3 4
        have HP : Hid (UnP l Sg.none false 5) := hide (.inr (.inr ⟨unhide HE0, (show ¬ J.Good (F.opened l 83).1 from fun h9 => by
          have := h9.2.1
          rw [unhide HRR, ← unhide HS, unhide HS7] at this
          have h8 := unhide HLN
          rw [this] at h8
          exact hl0 h8.symm), rfl, rfl, rfl⟩))
        have HB3 := hide BB3
        clear X3 BB3 X4 U4 B4 BB4
        go_wp2
        exact bodyPost_ret (v := .tuple #[.agg #[.slice none 0 0, .slice none 0 0, .slice none 0 0, .slice none 0 0, .bool false], .int .i64 5]) (by simp [results, Tryz.results8, go_sem, x0, x1, x2, x3, x4, ltR]) rfl (un_err2 (unhide HP) (unhide HB3) (Nat.le_refl _))
      have q1 : ¬ (0 : Int) < (ln : Int) := by omega
      have CM := segMay_all ia ka la ta ic kc lc tc gg so w4 (unhide HV4).sv hids htl
      have v0 := box_cell U4 (j := 0) rfl
      have v1 := box_cell U4 (j := 1) rfl
      have v2 := box_cell U4 (j := 2) rfl
      have v3 := box_cell U4 (j := 3) rfl
      have v4 := box_cell U4 (j := 4) rfl
      have z0 := cell_keep y0 B4
      have z1 := cell_keep y1 B4
      clear BB3 X3
      by_cases hM : MayP gg so
      case neg =>
        have HM := hide hM
        have HP : Hid (UnP l Sg.none false 5) := hide (.inr (.inr ⟨unhide HE0, (show ¬ J.Good (F.opened l 83).1 from fun h9 => by
          have := h9.2.2
          rw [unhide HRR, ← unhide HS, unhide HGG, unhide HSO] at this
          exact hM this), rfl, rfl, rfl⟩))
        clear hM
        go_upto_region 7 with (go_at_call 14; rw [← unhide HW4]; refine CM.mono ?_; rintro e w5 ⟨r5, rfl, hr5, B5⟩; obtain rfl : r5 = false := (by cases r5 with | false => rfl | true => exact absurd (hr5.1 rfl) (unhide HM)); have X5 := box_below X4 B5; have U5 := box_below U4 B5; have BB5 := below_trans' BB4 B5; have V5 := (unhide HV4).below B5; have x0 : w5.cell? ⟨w.heap.size, 0, none⟩ = some (.slice none 0 0) := box_cell X5 rfl; have x1 : w5.cell? ⟨w.heap.size, 1, none⟩ = some (.slice none 0 0) := box_cell X5 rfl; have x2 : w5.cell? ⟨w.heap.size, 2, none⟩ = some (.slice none 0 0) := box_cell X5 rfl; have x3 : w5.cell? ⟨w.heap.size, 3, none⟩ = some (.slice none 0 0) := box_cell X5 rfl; have x4 : w5.cell? ⟨w.heap.size, 4, none⟩ = some (.bool false) := box_cell X5 rfl; have f0 := bfro X5 0; have f1 := bfro X5 1; have f2 := bfro X5 2; have f3 := bfro X5 3; have f4 := bfro X5 4; have u0' : w5.cell? ⟨ub, 0, none⟩ = some (.slice ia gg.ids.length ic) := box_cell U5 rfl; have u1' : w5.cell? ⟨ub, 1, none⟩ = some (.slice ka gg.keys.length kc) := box_cell U5 rfl; have u2' : w5.cell? ⟨ub, 2, none⟩ = some (.slice la gg.lens.length lc) := box_cell U5 rfl; have u3' : w5.cell? ⟨ub, 3, none⟩ = some (.slice ta gg.ts.length tc) := box_cell U5 rfl; have u4' : w5.cell? ⟨ub, 4, none⟩ = some (.bool so) := box_cell U5 rfl; rw [unhide HUB] at u0' u1' u2' u3' u4')
        have HX5 := hide X5
        have HV5 := hide V5
        clear X5 U5 V5 X4 U4 B5 B4 CM hr5
        go_wp2
        exact bodyPost_ret (v := .tuple #[.agg #[.slice none 0 0, .slice none 0 0, .slice none 0 0, .slice none 0 0, .bool false], .int .i64 5]) (by simp [results, Tryz.results8, go_sem, x0, x1, x2, x3, x4]) rfl (un_err (unhide HP) BB5 (Nat.le_refl _))
      have HM := hide hM
      have HP : Hid (UnP l gg so 0) := hide (.inr (.inl ⟨unhide HE0, (show J.Good (F.opened l 83).1 from by
        unfold J.Good
        rw [unhide HRR, ← unhide HS, unhide HS7, unhide HGG, unhide HSO]
        exact ⟨unhide HBAD, List.eq_nil_of_length_eq_zero (by rw [unhide HLN]; exact hl0), hM⟩), rfl, by rw [unhide HRR, ← unhide HS, unhide HGG], by rw [unhide HRR, ← unhide HS, unhide HSO]⟩))
      clear hM
      go_upto_region 8 with (go_at_call 14; rw [← unhide HW4]; refine CM.mono ?_; rintro e w5 ⟨r5, rfl, hr5, B5⟩; obtain rfl : r5 = true := hr5.2 (unhide HM); have X5 := box_below X4 B5; have U5 := box_below U4 B5; have BB5 := below_trans' BB4 B5; have V5 := (unhide HV4).below B5; have x0 : w5.cell? ⟨w.heap.size, 0, none⟩ = some (.slice none 0 0) := box_cell X5 rfl; have x1 : w5.cell? ⟨w.heap.size, 1, none⟩ = some (.slice none 0 0) := box_cell X5 rfl; have x2 : w5.cell? ⟨w.heap.size, 2, none⟩ = some (.slice none 0 0) := box_cell X5 rfl; have x3 : w5.cell? ⟨w.heap.size, 3, none⟩ = some (.slice none 0 0) := box_cell X5 rfl; have x4 : w5.cell? ⟨w.heap.size, 4, none⟩ = some (.bool false) := box_cell X5 rfl; have f0 := bfro X5 0; have f1 := bfro X5 1; have f2 := bfro X5 2; have f3 := bfro X5 3; have f4 := bfro X5 4; have u0' : w5.cell? ⟨ub, 0, none⟩ = some (.slice ia gg.ids.length ic) := box_cell U5 rfl; have u1' : w5.cell? ⟨ub, 1, none⟩ = some (.slice ka gg.keys.length kc) := box_cell U5 rfl; have u2' : w5.cell? ⟨ub, 2, none⟩ = some (.slice la gg.lens.length lc) := box_cell U5 rfl; have u3' : w5.cell? ⟨ub, 3, none⟩ = some (.slice ta gg.ts.length tc) := box_cell U5 rfl; have u4' : w5.cell? ⟨ub, 4, none⟩ = some (.bool so) := box_cell U5 rfl; rw [unhide HUB] at u0' u1' u2' u3' u4')
      have HX5 := hide X5
      have HV5 := hide V5
      clear X5 U5 V5 X4 U4 B5 B4 CM hr5
      go_wp2
      have HEND : Hid (UnEnd9 w l (.returned (.tuple #[.agg #[.slice ia gg.ids.length ic, .slice ka gg.keys.length kc, .slice la gg.lens.length lc, .slice ta gg.ts.length tc, .bool so], .int .i64 0])) (five w5 w.heap.size (.slice ia gg.ids.length ic) (.slice ka gg.keys.length kc) (.slice la gg.lens.length lc) (.slice ta gg.ts.length tc) (.bool so))) := hide ⟨_, _, _, _, _, _, _, rfl, ((unhide HV5).five (unhide HX5) _ _ _ _ _).sv, unhide HP, five_below _ _ _ _ _ BB5 (Nat.le_refl _)⟩
      exact bodyPost_ret (v := .tuple #[.agg #[.slice ia gg.ids.length ic, .slice ka gg.keys.length kc, .slice la gg.lens.length lc, .slice ta gg.ts.length tc, .bool so], .int .i64 0]) (by simp [results, Tryz.results8, go_sem, x0, x1, x2, x3, x4]) rfl (unhide HEND)
end Go.Proofs.YtonhehhmnobciaaGreat

/-
  The chapter's example holds: the contract of the statements' own 'awake' (pack).
-/
namespace Go.Proofs.YtonhehhmnobciaaGreat
set_option maxRecDepth 100000
open Go.RowKit

theorem none_may : MayP Sg.none false where
  heads := ⟨by simp [Sg.none], rfl, rfl, by simp [Sg.none], (fun d x k n h => by simp [Sg.none] at h), (fun h => by cases h)⟩
  words := by decide
  lay := fun j t h => by simp [Sg.none] at h
  all := rfl
theorem none_inner : J.inner Sg.none false = [0, 0, 1, 0] := by decide

/-- What was packed is unpacked. -/
theorem good_inner {s : Sg} {so : Bool} (h : MayP s so) : J.Good (J.inner s so) := by
  obtain ⟨r1, r2, r3⟩ := J.read_inner (b := so) h.fit
  unfold J.Good
  rw [r1, r2, r3]
  exact ⟨rfl, rfl, h⟩
theorem opened_inner {s : Sg} {so : Bool} (h : MayP s so) : F.opened (F.wrap 83 (J.inner s so)) 83 = (J.inner s so, 0) := by
  rw [F.wrap_in h.bytes]
  exact F.opened_frame h.bytes
theorem unp_wrap {s : Sg} {so : Bool} (h : MayP s so) {g : Sg} {so' : Bool} {er : Int} (hu : UnP (F.wrap 83 (J.inner s so)) g so' er) : er = 0 ∧ g = s ∧ so' = so := by
  have e := opened_inner h
  rcases hu with ⟨h1, -⟩ | ⟨-, -, h2, h3, h4⟩ | ⟨-, h1, -⟩
  · rw [e] at h1
    exact absurd rfl h1
  · rw [e] at h3 h4
    obtain ⟨r1, r2, -⟩ := J.read_inner (b := so) h.fit
    exact ⟨h2, h3.trans r1, h4.trans r2⟩
  · rw [e] at h1
    exact absurd (good_inner h) h1
theorem wrap_byt9 {s : Sg} {so : Bool} (h : MayP s so) : V.Byt (F.wrap 83 (J.inner s so)) := by
  rw [F.wrap_in h.bytes]
  exact F.frame_byt (by omega) (J.inner_byt h) h.bytes

set_option maxRecDepth 100000 in
set_option maxHeartbeats 4000000 in
theorem awake9_any (w : World) : Calls Tryz.prog 4 #[] w fun e w' => e = .returned (.bool true) ∧ Below w.heap.size w w' := by
  have CP : Calls Tryz.prog 7 #[.agg #[.slice none 0 0, .slice none 0 0, .slice none 0 0, .slice none 0 0, .bool false]] w (PkEnd w Sg.none false) := pack9_any none none none none 0 0 0 0 Sg.none false w (Sv.none w) (fun x hx => by cases hx) (by decide)
  obtain ⟨l, hl⟩ : ∃ l, F.wrap 83 (J.inner Sg.none false) = l := ⟨_, rfl⟩
  have hbt : V.Byt l := by rw [← hl]; exact wrap_byt9 none_may
  have HU := hide (fun (g : Sg) (so' : Bool) (er : Int) (hu : UnP l g so' er) => unp_wrap none_may (by rw [hl]; exact hu))
  have hl4 : F.wrap 83 [0, 0, 1, 0] = l := by rw [← hl, none_inner]
  unfold PkEnd at CP
  rw [hl] at CP
  have HBT := hide hbt
  have HL4 := hide hl4
  have h4b : V.Byt [0, 0, 1, 0] := by intro c hc; simp at hc; omega
  have H4B := hide h4b
  clear hl hbt hl4 h4b
  go_enter Tryz.func4, Tryz.ntmps4
  go_wp2_with fail
  refine CP.mono ?_
  rintro e w1 (⟨-, v1, rfl, O1, B1⟩ | ⟨hn, -⟩)
  case inr => exact absurd none_may hn
  obtain ⟨pa, pc, hv1, -⟩ := id (Sl.owned O1)
  subst hv1
  clear CP
  go_wp2_with fail
  refine (unpack9_any _ l w1 (Sl.owned O1) (unhide HBT)).mono ?_
  rintro e w2 ⟨iv, kv, lv, tv, so, er, g, rfl, S2, U2, B2⟩
  obtain ⟨rfl, rfl, rfl⟩ := unhide HU _ _ _ U2
  obtain ⟨ia, ka, lna, ta, ic, kc, lnc, tc, rfl, rfl, rfl, rfl⟩ := S2.shape
  have Z2 := SB.new (so := false) S2
  obtain ⟨W2, hW2⟩ : ∃ W2, W2 = w2.alloc (.cells #[.slice ia Sg.none.ids.length ic, .slice ka Sg.none.keys.length kc, .slice lna Sg.none.lens.length lnc, .slice ta Sg.none.ts.length tc, .bool false] 29) := ⟨_, rfl⟩
  have BW2 : Below w2.heap.size w2 W2 := by rw [hW2]; exact below_alloc _ _
  rw [← hW2] at Z2
  obtain ⟨p2, hp2⟩ : ∃ p2, p2 = w2.heap.size := ⟨_, rfl⟩
  rw [← hp2] at Z2
  have BB2 := below_trans' (below_trans' B1 B2) BW2
  have OA2 := own_below (own_below O1 B2) BW2
  have CS := rsegSame_any ia ka lna ta ic kc lnc tc Sg.none false none none none none 0 0 0 0 W2 Z2.sv (Sv.none W2)
  have HW2 := hide hW2
  have HP2 := hide hp2
  have HZ2 := hide Z2
  clear hW2 hp2 Z2 S2 U2 B2 O1 B1 BW2
  go_wp2_with fail
  rw [← unhide HW2, ← unhide HP2]
  refine CS.mono ?_
  rintro e w3 ⟨rfl, B3⟩
  have Z3 := (unhide HZ2).below B3
  have OA3 := own_below OA2 B3
  have BB3 := below_trans' BB2 B3
  have HZ3 := hide Z3
  have lt3 : p2 < w3.heap.size := (Array.getElem?_eq_some_iff.1 Z3.box).1
  have lv3 := OA3.lt
  have HOA3 := hide OA3
  clear CS Z3 OA2 BB2 B3 HZ2 HW2 HP2 lv3 OA3
  go_wp2_with (first
    | (go_at_call 13; refine (refWrap_any 83 _ [0, 0, 1, 0] _ (Sl.lit (n := 4) [0, 0, 1, 0] rfl rfl (by omega)) (unhide H4B) (by omega)).mono ?_; rintro e w4 ⟨v4, rfl, O4, B4⟩; rw [unhide HL4] at O4; have BA4 : Below w3.heap.size w3 w4 := below_trans' (below_alloc w3 _) B4; obtain ⟨qa, qc, hv4, -⟩ := id (Sl.owned O4); subst hv4)
    | (go_at_call 12; refine (bytes_b _ _ l l w4 (Sl.owned (own_below (unhide HOA3) BA4)) (Sl.owned O4) true (by simp)).mono ?_; rintro e w5 ⟨rfl, B5⟩; have HZ5 := hide (((unhide HZ3).below BA4).below B5); have c0 : w5.cell? ⟨p2, 0, none⟩ = some (.slice ia Sg.none.ids.length ic) := (unhide HZ5).c0; have c1 : w5.cell? ⟨p2, 1, none⟩ = some (.slice ka Sg.none.keys.length kc) := (unhide HZ5).c1; have c2 : w5.cell? ⟨p2, 2, none⟩ = some (.slice lna Sg.none.lens.length lnc) := (unhide HZ5).c2; have c3 : w5.cell? ⟨p2, 3, none⟩ = some (.slice ta Sg.none.ts.length tc) := (unhide HZ5).c3; have c4 : w5.cell? ⟨p2, 4, none⟩ = some (.bool false) := (unhide HZ5).c4)
    | (go_at_call 14; refine (segMay_all ia ka lna ta ic kc lnc tc Sg.none false w5 (unhide HZ5).sv (fun x hx => by cases hx) (by decide)).mono ?_; rintro e w6 ⟨r6, rfl, hr6, B6⟩; obtain rfl : r6 = true := hr6.2 none_may))
  go_ret
  exact ⟨rfl, below_trans' (below_trans' (below_trans' BB3 BA4) B5) B6⟩
end Go.Proofs.YtonhehhmnobciaaGreat
