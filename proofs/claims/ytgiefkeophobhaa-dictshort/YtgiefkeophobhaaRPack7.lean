/-
  The contract of the document's own Pack.
-/
import Derived.Test.YtgiefkeophobhaaPack7
import Derived.Laws.IdiomStrings
namespace Go.Proofs.Ytgiefkeophobhaa
open Go.RowKit

theorem own_dr {w : World} {B : Nat} {e : TypeId} {size : Nat} {v : Value} {n : Nat} {xs : List Value} (h : w.ownsRow B e size v n xs) (q : Nat) : (w.drewN q).ownsRow B e size v n xs := h

theorem box_cell {w : World} {b : Nat} {cs : Array Value} {T : TypeId} {fr : Nat × Nat} (h : w.heap[b]? = some (.cells cs T fr)) {j : Nat} {u : Value} (hu : cs[j]? = some u) : w.cell? ⟨b, j, none⟩ = some u := by simp [World.cell?, h, hu]

/-- '[]byte(s)': a row in new memory that reads as the bytes of s. -/
theorem Try.conv_tb (w : World) (s : ByteArray) (hs : s.size ≤ 4294967296) : ∃ v W, (convert 9 32 (.string s)).run Try.prog w = .ok v W ∧ Sl .u8 W v (D.nums s) ∧ Below w.heap.size w W := by
  refine ⟨_, _, run_bytes_of_string w 9 32 5 s Try.underlying9 Try.underlying32 Try.underlying5, ?_, (Below.refl w.heap.size w).drew.alloc (by simp) _⟩
  refine ⟨_, _, by rw [D.nums_len], ?_, ?_, (fun h => by cases h), fun x hx i hi => ?_⟩
  · rw [D.nums_len]
    exact grownCap_ge w s.size 0 5
  · exact grownCap_le_maxLen w s.size 0 5 (by unfold maxLen; omega)
  · obtain rfl := Option.some.inj hx
    rw [D.nums_len] at hi
    have hi2 : i < s.data.size := hi
    have e1 : (bytesRow s (grownCap w s.size 0 5))[i]? = some (.int .u8 ((D.nums s).getD i 0)) := by
      unfold bytesRow D.nums
      rw [Array.getElem?_append_left (by simpa using hi2)]
      simp [List.getD, Array.getElem?_eq_getElem hi2]
    rw [Addr.add_lit, Nat.zero_add]
    exact box_cell (heap_alloc_new w.drew _) e1

theorem rput_b (n : Int) (w : World) (h0 : 0 ≤ n) (h1 : n ≤ 1000) (zs : List Int) (hz : V.put n = zs) :
    Calls Try.prog 38 #[.int .i64 n] w fun e w' => ∃ v', e = .returned v' ∧ w'.ownsRow w.heap.size 5 1 v' zs.length (zs.map (Value.int .u8)) ∧ Below w.heap.size w w' := by
  have := refPut_any n w
  rw [V.putA_in ⟨h0, by omega⟩, hz] at this
  exact this

set_option maxRecDepth 100000 in
set_option maxHeartbeats 8000000 in
theorem rpack_any (v : Value) (l : List ByteArray) (w : World) (h : Gl .string w v l) (hz : ∀ x ∈ l, x.size ≤ maxLen) (zr : List Int) (hr : D.pack l = zr) :
    Calls Try.prog 25 #[v] w fun e w' => ∃ v', e = .returned v' ∧ w'.ownsRow w.heap.size 5 1 v' zr.length (zr.map (Value.int .u8)) ∧ Below w.heap.size w w' := by
  obtain ⟨i5, hi5, hz0, hz1, hz2⟩ := info_parts Try.info5
  obtain ⟨a, cap, hv, hl, hm, hna, -⟩ := h.open
  cases hmy : D.may l with
  | false =>
    have HM := hide hmy
    have HR : Hid (zr = []) := by show _ = _; rw [← hr]; unfold D.pack; rw [hmy]; rfl
    clear hr hmy
    subst hv
    go_enter Try.func25, Try.ntmps25
    go_wp2_with fail
    refine (rmay_any _ _ _ h hz _ (unhide HM)).mono ?_
    rintro e w1 ⟨rfl, B1⟩
    go_wp2
    go_ret
    refine ⟨_, rfl, ?_, B1⟩
    rw [unhide HR]
    exact World.ownsRow_nil _ _ _ _
  | true =>
    have HM := hide hmy
    have hll := D.may_len hmy
    have hsm := D.pack_small l
    rw [hr] at hsm
    rw [D.pack_in hmy] at hr
    have hsz := D.may_size hmy
    obtain ⟨z0, hzz⟩ : ∃ z, V.put (l.length : Int) = z := ⟨_, rfl⟩
    have HZ := hide hzz
    rw [hzz] at hr
    have HR := hide hr
    clear hr hmy hzz
    subst hv
    go_enter Try.func25, Try.ntmps25
    go_wp2_with fail
    refine (rmay_any _ _ _ h hz _ (unhide HM)).mono ?_
    rintro e w1 ⟨rfl, B1⟩
    go_wp2_with fail
    refine (rput_b _ _ (by omega) (by omega) z0 (unhide HZ)).mono ?_
    rintro e w2 ⟨v2, rfl, O2, B2⟩
    have O2' := own_mono O2 B1.size
    have BB2 := below_trans' B1 B2
    obtain ⟨a', cap', hv', -, -, -, ho⟩ := h.open
    simp only [Value.slice.injEq, true_and] at hv'
    obtain ⟨rfl, rfl⟩ := hv'
    clear HZ O2 B1 B2
    go_wp2
    go_loopw [4, 5] (fun bv iv wr => ∃ (k : Nat) (zs : List Int), k ≤ l.length ∧ zs.length ≤ 7000 ∧ iv = .int .i64 k ∧ wr.ownsRow w.heap.size 5 1 bv zs.length (zs.map (Value.int .u8)) ∧ Below w.heap.size w wr ∧ Hid (zs ++ D.enc (D.prev l k) (l.drop k) = zr)) (fun _ iv _ => l.length - (intOf iv).toNat)
    case atStart => exact ⟨0, z0, Nat.zero_le _, by have := congrArg List.length (unhide HR); simp only [List.length_append] at this; omega, rfl, O2', BB2, unhide HR⟩
    case round =>
      obtain ⟨k, zs, hk, hzs, rfl, hown, hbel, HK⟩ := hrel
      clear HR O2' BB2 w2
      rename World => w0
      by_cases hlt : k < l.length
      · obtain ⟨b, off, rfl, hb, hc⟩ := ho (by omega)
        obtain ⟨x, hx⟩ : ∃ x, l[k]? = some x := ⟨l[k], List.getElem?_eq_getElem hlt⟩
        have c0 := hc k x hx
        have hx32 := (hsz x (List.mem_of_getElem? hx)).2
        have hs := unhide HK
        rw [drop_cons hx, D.enc, D.enc1] at hs
        obtain ⟨y, hy⟩ : ∃ y, D.prev l k = y := ⟨_, rfl⟩
        rw [hy] at hs
        have HX := hide hx
        have HY := hide hy
        have HS := hide hs
        have HCC := hide hc
        clear hs HK hx hy hc ho
        go_wp2
        go_loopw [6] (fun nv w2 => ∃ n : Nat, n ≤ y.size ∧ n ≤ x.size ∧ nv = .int .i64 n ∧ Below w0.heap.size w0 w2 ∧ Hid (y.data.toList.take n = x.data.toList.take n)) (fun nv _ => x.size - (intOf nv).toNat)
        case atStart => exact ⟨0, Nat.zero_le _, Nat.zero_le _, rfl, Below.refl _ _, rfl⟩
        case round =>
          obtain ⟨n, hny, hnx, rfl, hb2, HT⟩ := hrel
          have hown2 := own_below hown hb2
          have hbel2 := below_trans' hbel hb2
          have d0 := (hbel2.cell (p := ⟨b, off + k, none⟩) hb).trans c0
          have hb3 := hb2
          clear hown hbel hb2
          rcases Nat.eq_zero_or_pos k with hk0 | hk0
          · subst hk0
            simp only [Nat.add_zero] at c0 d0
            have hy0 : y.size = 0 := by rw [← unhide HY]; rfl
            have HC : Hid (D.cm y x = n) := com_end hny hnx (unhide HT) fun h _ => by omega
            obtain ⟨p1, hp1⟩ : ∃ z, V.put (n : Int) = z := ⟨_, rfl⟩
            obtain ⟨p2, hp2⟩ : ∃ z, V.put ((x.size : Int) - (n : Int)) = z := ⟨_, rfl⟩
            have hq1 := (V.put_len (n : Int)).2
            have hq2 := (V.put_len ((x.size : Int) - (n : Int))).2
            rw [hp1] at hq1
            rw [hp2] at hq2
            have hs2 := unhide HS
            rw [unhide HC, hp1, hp2] at hs2
            have hfz : (zs ++ p1 ++ p2 ++ (D.nums x).drop n).length ≤ 7000 := by
              have := congrArg List.length hs2
              simp only [List.length_append] at this ⊢
              omega
            have HS2 := hide hs2
            have HP1 := hide hp1
            have HP2 := hide hp2
            have HFZ := hide hfz
            clear hs2 hp1 hp2 hfz HS HC HT HCC hy0
            go_wp2
            go_quiet (fail)
            go_wp2_with fail
            refine (rput_b _ _ (by omega) (by omega) p1 (unhide HP1)).mono ?_
            rintro e w4 ⟨v4, rfl, O4, B4⟩
            have OB4 := own_below (own_dr hown2 _) B4
            have BB4 := below_trans' (below_dr hbel2 _) B4
            have S4 := Sl.owned O4
            obtain ⟨v4a, v4c, hv4, -⟩ := id S4
            subst hv4
            clear O4 B4
            go_wp2_with (first
              | (at_builtin; refine append_all rfl (.tmp 59) (.tmp 61) 32 rfl Try.underlying32 hi5 hz0 hz1 hz2 rfl (pre := zs) (zs := p1) rfl rfl S4 OB4 BB4 BB4.size (by omega) (by decide) ?_; intro v5 w5 O5 B5; have d5 := (B5.cell (p := ⟨b, off, none⟩) hb).trans c0)
              | (go_at_call 38; refine (rput_b _ _ (by omega) (by omega) p2 (unhide HP2)).mono ?_; rintro e w6 ⟨v6, rfl, O6, B6⟩; have OB6 := own_below O5 B6; have BB6 := below_trans' B5 B6; have S6 := Sl.owned O6; obtain ⟨v6a, v6c, hv6, -⟩ := id S6; subst hv6)
              | (at_builtin; refine append_all rfl (.tmp 63) (.tmp 71) 32 rfl Try.underlying32 hi5 hz0 hz1 hz2 rfl (pre := zs ++ p1) (zs := p2) rfl rfl S6 OB6 BB6 BB6.size (by simp; omega) (by decide) ?_; intro v7 w7 O7 B7; have d7 := (B7.cell (p := ⟨b, off, none⟩) hb).trans c0; obtain ⟨vv, W, hcv, SW, BW⟩ := Try.conv_tb w7 (x.extract n x.size) (by simp; omega); have OW := own_below O7 BW; have BBW := below_trans' B7 BW)
              | (at_builtin; refine append_all rfl (.tmp 73) (.tmp 80) 32 rfl Try.underlying32 hi5 hz0 hz1 hz2 rfl (pre := zs ++ p1 ++ p2) (zs := D.nums (x.extract n x.size)) rfl rfl SW OW BBW BBW.size (by rw [D.nums_len]; simp; omega) (by decide) ?_; intro v8 w8 O8 B8))
            go_roundw
            case rel =>
              rw [drop_nums] at O8
              refine ⟨0 + 1, zs ++ p1 ++ p2 ++ (D.nums x).drop n, by omega, unhide HFZ, by go_num, O8, B8, ?_⟩
              show _ = _
              rw [← unhide HS2, D.prev_succ (unhide HX)]
              simp
            case measure => simp [intOf]; omega
          · obtain ⟨j, rfl⟩ : ∃ j, k = j + 1 := ⟨k - 1, by omega⟩
            have hyj : l[j]? = some y := by
              have e := unhide HY
              have hj : j < l.length := by omega
              rw [D.prev_succ (List.getElem?_eq_getElem hj)] at e
              rw [List.getElem?_eq_getElem hj, e]
            have d1 := (hbel2.cell (p := ⟨b, off + j, none⟩) hb).trans (unhide HCC j y hyj)
            have hy32 := (hsz y (List.mem_of_getElem? hyj)).2
            clear hyj HCC
            by_cases h1 : n < x.size
            · have g1 : decide ((n : Int) < (x.size : Int)) = true := by simp; omega
              by_cases h2 : n < y.size
              · have g2 : decide ((n : Int) < (y.size : Int)) = true := by simp; omega
                have i1 := Try.index_str x n h1
                have i2 := Try.index_str y n h2
                by_cases he : y[n] = x[n]
                · have HS3 := hide (com_step h2 h1 (unhide HT) he)
                  obtain ⟨u, hu⟩ : ∃ u, (x[n].toNat : Int) = u := ⟨_, rfl⟩
                  have hu2 : (y[n].toNat : Int) = u := by rw [he]; exact hu
                  rw [hu] at i1
                  rw [hu2] at i2
                  have ge : (u == u) = true := by simp
                  clear hu hu2 he
                  go_wp2
                  go_quiet (fail)
                  go_wp2
                  go_roundw
                  case rel => exact ⟨n + 1, by omega, by omega, by go_num, below_dr hb3 _, unhide HS3⟩
                  case measure => simp [intOf]; omega
                · have HN := hide he
                  obtain ⟨u, hu⟩ : ∃ u, (x[n].toNat : Int) = u := ⟨_, rfl⟩
                  obtain ⟨u2, hu2⟩ : ∃ u, (y[n].toNat : Int) = u := ⟨_, rfl⟩
                  have ge : (u == u2) = false := by
                    rw [beq_eq_false_iff_ne, ← hu, ← hu2]
                    intro e
                    exact he (UInt8.toNat_inj.1 (by omega))
                  rw [hu] at i1
                  rw [hu2] at i2
                  clear hu hu2 he
                  have HC : Hid (D.cm y x = n) := com_end hny hnx (unhide HT) fun _ _ => unhide HN
                  obtain ⟨p1, hp1⟩ : ∃ z, V.put (n : Int) = z := ⟨_, rfl⟩
                  obtain ⟨p2, hp2⟩ : ∃ z, V.put ((x.size : Int) - (n : Int)) = z := ⟨_, rfl⟩
                  have hq1 := (V.put_len (n : Int)).2
                  have hq2 := (V.put_len ((x.size : Int) - (n : Int))).2
                  rw [hp1] at hq1
                  rw [hp2] at hq2
                  have hs2 := unhide HS
                  rw [unhide HC, hp1, hp2] at hs2
                  have hfz : (zs ++ p1 ++ p2 ++ (D.nums x).drop n).length ≤ 7000 := by
                    have := congrArg List.length hs2
                    simp only [List.length_append] at this ⊢
                    omega
                  have HS2 := hide hs2
                  have HP1 := hide hp1
                  have HP2 := hide hp2
                  have HFZ := hide hfz
                  clear hs2 hp1 hp2 hfz HS HC HT HN
                  go_wp2
                  go_quiet (fail)
                  go_wp2_with fail
                  refine (rput_b _ _ (by omega) (by omega) p1 (unhide HP1)).mono ?_
                  rintro e w4 ⟨v4, rfl, O4, B4⟩
                  have OB4 := own_below (own_dr hown2 _) B4
                  have BB4 := below_trans' (below_dr hbel2 _) B4
                  have S4 := Sl.owned O4
                  obtain ⟨v4a, v4c, hv4, -⟩ := id S4
                  subst hv4
                  clear O4 B4
                  go_wp2_with (first
                    | (at_builtin; refine append_all rfl (.tmp 59) (.tmp 61) 32 rfl Try.underlying32 hi5 hz0 hz1 hz2 rfl (pre := zs) (zs := p1) rfl rfl S4 OB4 BB4 BB4.size (by omega) (by decide) ?_; intro v5 w5 O5 B5; have d5 := (B5.cell (p := ⟨b, off + (j + 1), none⟩) hb).trans c0)
                    | (go_at_call 38; refine (rput_b _ _ (by omega) (by omega) p2 (unhide HP2)).mono ?_; rintro e w6 ⟨v6, rfl, O6, B6⟩; have OB6 := own_below O5 B6; have BB6 := below_trans' B5 B6; have S6 := Sl.owned O6; obtain ⟨v6a, v6c, hv6, -⟩ := id S6; subst hv6)
                    | (at_builtin; refine append_all rfl (.tmp 63) (.tmp 71) 32 rfl Try.underlying32 hi5 hz0 hz1 hz2 rfl (pre := zs ++ p1) (zs := p2) rfl rfl S6 OB6 BB6 BB6.size (by simp; omega) (by decide) ?_; intro v7 w7 O7 B7; have d7 := (B7.cell (p := ⟨b, off + (j + 1), none⟩) hb).trans c0; obtain ⟨vv, W, hcv, SW, BW⟩ := Try.conv_tb w7 (x.extract n x.size) (by simp; omega); have OW := own_below O7 BW; have BBW := below_trans' B7 BW)
                    | (at_builtin; refine append_all rfl (.tmp 73) (.tmp 80) 32 rfl Try.underlying32 hi5 hz0 hz1 hz2 rfl (pre := zs ++ p1 ++ p2) (zs := D.nums (x.extract n x.size)) rfl rfl SW OW BBW BBW.size (by rw [D.nums_len]; simp; omega) (by decide) ?_; intro v8 w8 O8 B8))
                  go_roundw
                  case rel =>
                    rw [drop_nums] at O8
                    refine ⟨j + 1 + 1, zs ++ p1 ++ p2 ++ (D.nums x).drop n, by omega, unhide HFZ, by go_num, O8, B8, ?_⟩
                    show _ = _
                    rw [← unhide HS2, D.prev_succ (unhide HX)]
                    simp
                  case measure => simp [intOf]; omega
              · have g2 : decide ((n : Int) < (y.size : Int)) = false := by simp; omega
                have HC : Hid (D.cm y x = n) := com_end hny hnx (unhide HT) fun h _ => absurd h h2
                obtain ⟨p1, hp1⟩ : ∃ z, V.put (n : Int) = z := ⟨_, rfl⟩
                obtain ⟨p2, hp2⟩ : ∃ z, V.put ((x.size : Int) - (n : Int)) = z := ⟨_, rfl⟩
                have hq1 := (V.put_len (n : Int)).2
                have hq2 := (V.put_len ((x.size : Int) - (n : Int))).2
                rw [hp1] at hq1
                rw [hp2] at hq2
                have hs2 := unhide HS
                rw [unhide HC, hp1, hp2] at hs2
                have hfz : (zs ++ p1 ++ p2 ++ (D.nums x).drop n).length ≤ 7000 := by
                  have := congrArg List.length hs2
                  simp only [List.length_append] at this ⊢
                  omega
                have HS2 := hide hs2
                have HP1 := hide hp1
                have HP2 := hide hp2
                have HFZ := hide hfz
                clear hs2 hp1 hp2 hfz HS HC HT
                go_wp2
                go_quiet (fail)
                go_wp2_with fail
                refine (rput_b _ _ (by omega) (by omega) p1 (unhide HP1)).mono ?_
                rintro e w4 ⟨v4, rfl, O4, B4⟩
                have OB4 := own_below (own_dr hown2 _) B4
                have BB4 := below_trans' (below_dr hbel2 _) B4
                have S4 := Sl.owned O4
                obtain ⟨v4a, v4c, hv4, -⟩ := id S4
                subst hv4
                clear O4 B4
                go_wp2_with (first
                  | (at_builtin; refine append_all rfl (.tmp 59) (.tmp 61) 32 rfl Try.underlying32 hi5 hz0 hz1 hz2 rfl (pre := zs) (zs := p1) rfl rfl S4 OB4 BB4 BB4.size (by omega) (by decide) ?_; intro v5 w5 O5 B5; have d5 := (B5.cell (p := ⟨b, off + (j + 1), none⟩) hb).trans c0)
                  | (go_at_call 38; refine (rput_b _ _ (by omega) (by omega) p2 (unhide HP2)).mono ?_; rintro e w6 ⟨v6, rfl, O6, B6⟩; have OB6 := own_below O5 B6; have BB6 := below_trans' B5 B6; have S6 := Sl.owned O6; obtain ⟨v6a, v6c, hv6, -⟩ := id S6; subst hv6)
                  | (at_builtin; refine append_all rfl (.tmp 63) (.tmp 71) 32 rfl Try.underlying32 hi5 hz0 hz1 hz2 rfl (pre := zs ++ p1) (zs := p2) rfl rfl S6 OB6 BB6 BB6.size (by simp; omega) (by decide) ?_; intro v7 w7 O7 B7; have d7 := (B7.cell (p := ⟨b, off + (j + 1), none⟩) hb).trans c0; obtain ⟨vv, W, hcv, SW, BW⟩ := Try.conv_tb w7 (x.extract n x.size) (by simp; omega); have OW := own_below O7 BW; have BBW := below_trans' B7 BW)
                  | (at_builtin; refine append_all rfl (.tmp 73) (.tmp 80) 32 rfl Try.underlying32 hi5 hz0 hz1 hz2 rfl (pre := zs ++ p1 ++ p2) (zs := D.nums (x.extract n x.size)) rfl rfl SW OW BBW BBW.size (by rw [D.nums_len]; simp; omega) (by decide) ?_; intro v8 w8 O8 B8))
                go_roundw
                case rel =>
                  rw [drop_nums] at O8
                  refine ⟨j + 1 + 1, zs ++ p1 ++ p2 ++ (D.nums x).drop n, by omega, unhide HFZ, by go_num, O8, B8, ?_⟩
                  show _ = _
                  rw [← unhide HS2, D.prev_succ (unhide HX)]
                  simp
                case measure => simp [intOf]; omega
            · have g1 : decide ((n : Int) < (x.size : Int)) = false := by simp; omega
              have HC : Hid (D.cm y x = n) := com_end hny hnx (unhide HT) fun _ h => absurd h h1
              obtain ⟨p1, hp1⟩ : ∃ z, V.put (n : Int) = z := ⟨_, rfl⟩
              obtain ⟨p2, hp2⟩ : ∃ z, V.put ((x.size : Int) - (n : Int)) = z := ⟨_, rfl⟩
              have hq1 := (V.put_len (n : Int)).2
              have hq2 := (V.put_len ((x.size : Int) - (n : Int))).2
              rw [hp1] at hq1
              rw [hp2] at hq2
              have hs2 := unhide HS
              rw [unhide HC, hp1, hp2] at hs2
              have hfz : (zs ++ p1 ++ p2 ++ (D.nums x).drop n).length ≤ 7000 := by
                have := congrArg List.length hs2
                simp only [List.length_append] at this ⊢
                omega
              have HS2 := hide hs2
              have HP1 := hide hp1
              have HP2 := hide hp2
              have HFZ := hide hfz
              clear hs2 hp1 hp2 hfz HS HC HT
              go_wp2
              go_quiet (fail)
              go_wp2_with fail
              refine (rput_b _ _ (by omega) (by omega) p1 (unhide HP1)).mono ?_
              rintro e w4 ⟨v4, rfl, O4, B4⟩
              have OB4 := own_below (own_dr hown2 _) B4
              have BB4 := below_trans' (below_dr hbel2 _) B4
              have S4 := Sl.owned O4
              obtain ⟨v4a, v4c, hv4, -⟩ := id S4
              subst hv4
              clear O4 B4
              go_wp2_with (first
                | (at_builtin; refine append_all rfl (.tmp 59) (.tmp 61) 32 rfl Try.underlying32 hi5 hz0 hz1 hz2 rfl (pre := zs) (zs := p1) rfl rfl S4 OB4 BB4 BB4.size (by omega) (by decide) ?_; intro v5 w5 O5 B5; have d5 := (B5.cell (p := ⟨b, off + (j + 1), none⟩) hb).trans c0)
                | (go_at_call 38; refine (rput_b _ _ (by omega) (by omega) p2 (unhide HP2)).mono ?_; rintro e w6 ⟨v6, rfl, O6, B6⟩; have OB6 := own_below O5 B6; have BB6 := below_trans' B5 B6; have S6 := Sl.owned O6; obtain ⟨v6a, v6c, hv6, -⟩ := id S6; subst hv6)
                | (at_builtin; refine append_all rfl (.tmp 63) (.tmp 71) 32 rfl Try.underlying32 hi5 hz0 hz1 hz2 rfl (pre := zs ++ p1) (zs := p2) rfl rfl S6 OB6 BB6 BB6.size (by simp; omega) (by decide) ?_; intro v7 w7 O7 B7; have d7 := (B7.cell (p := ⟨b, off + (j + 1), none⟩) hb).trans c0; obtain ⟨vv, W, hcv, SW, BW⟩ := Try.conv_tb w7 (x.extract n x.size) (by simp; omega); have OW := own_below O7 BW; have BBW := below_trans' B7 BW)
                | (at_builtin; refine append_all rfl (.tmp 73) (.tmp 80) 32 rfl Try.underlying32 hi5 hz0 hz1 hz2 rfl (pre := zs ++ p1 ++ p2) (zs := D.nums (x.extract n x.size)) rfl rfl SW OW BBW BBW.size (by rw [D.nums_len]; simp; omega) (by decide) ?_; intro v8 w8 O8 B8))
              go_roundw
              case rel =>
                rw [drop_nums] at O8
                refine ⟨j + 1 + 1, zs ++ p1 ++ p2 ++ (D.nums x).drop n, by omega, unhide HFZ, by go_num, O8, B8, ?_⟩
                show _ = _
                rw [← unhide HS2, D.prev_succ (unhide HX)]
                simp
              case measure => simp [intOf]; omega
      · have HE : Hid (zs = zr) := by
          show _ = _
          have := unhide HK
          rw [List.drop_eq_nil_of_le (by omega), D.enc, List.append_nil] at this
          exact this
        clear ho
        go_wp2
        go_ret
        exact ⟨_, rfl, by rw [← unhide HE]; exact hown, hbel⟩
end Go.Proofs.Ytgiefkeophobhaa
