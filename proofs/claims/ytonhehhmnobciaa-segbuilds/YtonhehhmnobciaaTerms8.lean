/-
  The contract of terms: the words, with where they stand in the cards.
-/
import Derived.Test.YtonhehhmnobciaaPlainT8
import Derived.Test.YtonhehhmnobciaaMayAll8
namespace Go.Proofs.Ytonhehhmnobciaa
set_option maxRecDepth 100000
open Go.RowKit Go.WideMaps Go.Maps

set_option maxRecDepth 100000 in
set_option maxHeartbeats 4000000 in
theorem terms_any (v u : Value) (L : List Cd) (ws : List ByteArray) (w : World) (h : Cs w v L) (hg : Gl .string w u ws) (hr : D.Rise ws) (hll : L.length ≤ 64) (hwl : ws.length ≤ 200) (hcw : ∀ c ∈ L, c.w.length ≤ 120) (hin : ∀ c ∈ L, ∀ x ∈ c.w, x ∈ ws) (hz : ∀ x ∈ ws, x.size ≤ 32) :
    Calls Try.prog 32 #[v, u] w fun e w' => ∃ v', e = .returned v' ∧ TS (w.heap.size + 1) w' v' ws L ∧ Below w.heap.size w w' := by
  obtain ⟨i0, hi, hz0, hz1, hz2⟩ := info_parts Try.infoT
  obtain ⟨a, cap, rfl, hl, hm, hna, ho1⟩ := h.open
  obtain ⟨a2, cap2, rfl, hl2, hm2, hna2, ho2⟩ := hg.open
  have HR := hide hr
  have HIN := hide hin
  have hmm := @run_makeMap Try.prog
  clear h hg hr hin
  go_enter Try.func32, Try.ntmps32
  go_wp2
  go_loopw [6, 17] (fun ov iv wr => ∃ (k : Nat) (M : DataW Unit) (st : List Tx), k ≤ ws.length ∧ iv = .int .i64 k ∧ Hid (st = (ws.take k).map (fun t => (t, ((none, 0, 0) : Pts), ([] : List (Pt × Pts))))) ∧ st.length ≤ 200 ∧ wr.ownsMap Try.prog 9 (plainElem Try.prog 3) w.heap.size k M ∧ Hid (Nums M ws k) ∧ wr.ownsRow (w.heap.size + 1) 66 2 ov st.length (st.flatMap encS) ∧ Below w.heap.size w wr ∧ w.heap.size + 1 ≤ wr.heap.size) (fun _ iv _ => ws.length - (intOf iv).toNat)
  case atStart => exact ⟨0, _, [], Nat.zero_le _, rfl, rfl, by simp, World.ownsMap_made _ _ _ _, Nums.start ws, World.ownsRow_nil _ _ _ _, below_alloc _ _, by simp⟩
  case round =>
    obtain ⟨k, M, st, hk, rfl, HS, hsl, hown, HN, hrow, hbel, hws⟩ := hrel
    by_cases hlt : k < ws.length
    · obtain ⟨x, hx⟩ : ∃ x, ws[k]? = some x := ⟨ws[k], List.getElem?_eq_getElem hlt⟩
      obtain ⟨b, off, rfl, hb, hc⟩ := ho2 (by omega)
      have d0 := (hbel.cell (p := ⟨b, off + k, none⟩) hb).trans (hc k x hx)
      have hns : x.size ≤ maxLen := by have := hz x (List.mem_of_getElem? hx); unfold maxLen; omega
      have hkey : keyOf Try.prog 9 (.string x) = some (.string x.data.toList) := keyOf_string_mk Try.underlying9 hns
      have hbs := hbel.size
      have HN2 := hide ((unhide HN).step (unhide HR) hx)
      have HTS := hide (take_snoc8 hx)
      have hst : st.length < 200 := by have := unhide HS; rw [this]; simp; omega
      clear hc ho2 hx hsl
      go_wp2_with (at_mapUpdate; refine wpList_mapUpdate_own _ rfl _ _ _ 103 rfl 9 3 keyed9 Try.underlying103 _ w.heap.size k _ rfl hown (by unfold maxLen; omega) _ _ _ rfl rfl hkey _ [] (plainElem_int Try.underlying3 (WalkArith.wf_i64 (by omega))) ?_)
      intro w1 hown1 hgrow1
      have B1 := hbel.grown hgrow1 (by omega) (fun j hj => by cases hj; exact Nat.le_refl _)
      have O1 := hrow.kept hgrow1 (by
        cases hv : u6.ownBlock with
        | none => exact .inl rfl
        | some q => exact .inr (by have := (hrow.lt q hv).1; simp; omega))
      have hs1 : w.heap.size + 1 ≤ w1.heap.size := Nat.le_trans hws hgrow1.size
      clear hgrow1 hrow hown hbel d0
      go_wp2_with (at_builtin; refine append_oneF rfl _ _ 29 rfl Try.underlying29 hi hz0 hz1 hz2 rfl (by decide) encS_len encS_one (pre := st) (v := u6) (x, (none, 0, 0), []) rfl rfl rfl (by simp) O1 (by omega) (by omega) (by decide) ?_; intro g2 cap3 w2 O2 g2' l2)
      have B2 := B1.grown g2' (by omega) (fun j hj => by have := (O1.lt j hj).1; omega)
      have M2 := hown1.kept g2' (by intro e; have := (O1.lt _ e.symm).1; omega)
      have hs2 := Nat.le_trans hs1 g2'.size
      clear g2' l2 O1 B1 hown1
      go_wp2
      go_roundw
      case rel =>
        refine ⟨k + 1, _, st ++ [(x, (none, 0, 0), [])], by omega, by go_num, ?_, by simp; omega, M2, unhide HN2, O2, B2, hs2⟩
        show _ = _
        rw [unhide HTS, List.map_append, ← unhide HS]
        rfl
      case measure => simp [intOf]; omega
    · have hkl : k = ws.length := by omega
      subst hkl
      have HC : Hid (Cur st ws (L.take 0)) := by
        have e := unhide HS
        rw [List.take_length] at e
        refine ⟨by rw [e]; simp, fun j x hx => ?_⟩
        rw [e, List.getElem?_map] at hx
        obtain ⟨t, ht, rfl⟩ := Option.map_eq_some_iff.1 hx
        exact ⟨ht, rfl⟩
      have hst : St (w.heap.size + 1) wr st := by
        have e := unhide HS
        refine ⟨fun x hx => ?_, fun i j x y _ hx hy q hq => ?_⟩
        · rw [e] at hx
          obtain ⟨t, -, rfl⟩ := List.mem_map.1 hx
          exact Own8.nil _ _
        · rw [e, List.getElem?_map] at hx
          obtain ⟨t, -, rfl⟩ := Option.map_eq_some_iff.1 hx
          rcases hq with hq | ⟨q', hq', -⟩
          · cases hq
          · cases hq'
      have hrow : wr.ownsRow (w.heap.size + 1) 66 2 u6 ws.length (st.flatMap encS) := by rw [← (unhide HC).1]; exact hrow
      clear HS hsl ho2
      rename World => w0
      go_wp2
      go_loopw [33] (fun iv wr => ∃ (i : Nat) (st : List Tx), i ≤ L.length ∧ iv = .int .i64 i ∧ Hid (Cur st ws (L.take i)) ∧ St (w.heap.size + 1) wr st ∧ wr.ownsMap Try.prog 9 (plainElem Try.prog 3) w.heap.size ws.length M ∧ wr.ownsRow (w.heap.size + 1) 66 2 u6 ws.length (st.flatMap encS) ∧ Below w.heap.size w wr ∧ w.heap.size + 1 ≤ wr.heap.size) (fun iv _ => L.length - (intOf iv).toNat)
      case atStart => exact ⟨0, st, Nat.zero_le _, rfl, HC, hst, hown, hrow, hbel, hws⟩
      case round =>
        clear hown hrow hbel hws hst HC
        obtain ⟨i, st1, hil, rfl, HC, hst, hown, hrow, hbel, hws⟩ := hrel
        by_cases hlt : i < L.length
        · obtain ⟨b, off, rfl, hb, hc⟩ := ho1 (by omega)
          obtain ⟨c, hx⟩ : ∃ c, L[i]? = some c := ⟨L[i], List.getElem?_eq_getElem hlt⟩
          obtain ⟨wa, wc, c0, c1, c2, G0⟩ := hc i c hx
          have d0 := (hbel.cell (p := ⟨b, off + i * 3, none⟩) hb).trans c0
          have d1 := (hbel.cell (p := ⟨b, off + i * 3 + 1, none⟩) hb).trans c1
          have d2 := (hbel.cell (p := ⟨b, off + i * 3 + 2, none⟩) hb).trans c2
          have hcl := hcw c (List.mem_of_getElem? hx)
          have HX := hide hx
          have HC0 : Hid (Cur st1 ws (L.take i ++ [⟨c.id, c.key, c.w.take 0⟩])) := ⟨(unhide HC).1, fun j x hx => by rw [S.posts_none]; exact (unhide HC).2 j x hx⟩
          have BC := below_all hbel (.cells #[.string c.id, .int .i64 c.key, .slice wa c.w.length wc] 25)
          have BC' := below_alloc wr (.cells #[.string c.id, .int .i64 c.key, .slice wa c.w.length wc] 25)
          have hstC := hst.below BC'
          have hownC := hown.alloc (.cells #[.string c.id, .int .i64 c.key, .slice wa c.w.length wc] 25)
          have hrowC := hrow.alloc (.cells #[.string c.id, .int .i64 c.key, .slice wa c.w.length wc] 25)
          have hwsC : w.heap.size + 1 ≤ (wr.alloc (.cells #[.string c.id, .int .i64 c.key, .slice wa c.w.length wc] 25)).heap.size := by simp; omega
          obtain ⟨wa', wc', hv', -, -, -, hoW⟩ := G0.open
          simp only [Value.slice.injEq, true_and] at hv'
          obtain ⟨rfl, rfl⟩ := hv'
          rename World => w9
          clear hc c0 c1 c2 hx hst hown hrow hbel hws HC BC'
          go_wp2
          go_loopw [41] (fun iv wr => ∃ (j : Nat) (st : List Tx), j ≤ c.w.length ∧ iv = .int .i64 j ∧ Hid (Cur st ws (L.take i ++ [⟨c.id, c.key, c.w.take j⟩])) ∧ St (w.heap.size + 1) wr st ∧ wr.ownsMap Try.prog 9 (plainElem Try.prog 3) w.heap.size ws.length M ∧ wr.ownsRow (w.heap.size + 1) 66 2 u6 ws.length (st.flatMap encS) ∧ Below w.heap.size w wr ∧ w.heap.size + 1 ≤ wr.heap.size) (fun iv _ => c.w.length - (intOf iv).toNat)
          case atStart => exact ⟨0, st1, Nat.zero_le _, rfl, HC0, hstC, hownC, hrowC, BC, hwsC⟩
          case round =>
            clear hownC hrowC hwsC hstC HC0 BC
            obtain ⟨j, st2, hjl, rfl, HC, hst, hown, hrow, hbel, hws⟩ := hrel
            by_cases hlt2 : j < c.w.length
            · obtain ⟨x, hx⟩ : ∃ x, c.w[j]? = some x := ⟨c.w[j], List.getElem?_eq_getElem hlt2⟩
              obtain ⟨b1, off1, rfl, hb1, hc1⟩ := hoW (by omega)
              have e0 := (hbel.cell (p := ⟨b1, off1 + j, none⟩) hb1).trans (hc1 j x hx)
              obtain ⟨n, hn⟩ : ∃ n, ws[n]? = some x := by
                obtain ⟨n, hn, e⟩ := List.mem_iff_getElem.1 (unhide HIN c (List.mem_of_getElem? (unhide HX)) x (List.mem_of_getElem? hx))
                exact ⟨n, by rw [List.getElem?_eq_getElem hn, e]⟩
              have hnl := (List.getElem?_eq_some_iff.1 hn).1
              obtain ⟨⟨x', ⟨sa, sn, sc⟩, qs⟩, hsn⟩ : ∃ y, st2[n]? = some y := ⟨st2[n]'(by rw [(unhide HC).1]; exact hnl), List.getElem?_eq_getElem _⟩
              obtain ⟨hx', hqp⟩ := (unhide HC).2 n _ hsn
              simp only at hx' hqp
              obtain rfl : x' = x := by rw [hn] at hx'; exact (Option.some.inj hx').symm
              have hO := hst.1 _ (List.mem_of_getElem? hsn)
              simp only at hO
              obtain rfl : sn = qs.length := own_n hO.1
              have hns : x'.size ≤ maxLen := by have := hz x' (List.mem_of_getElem? hn); unfold maxLen; omega
              have hq1 : qs.length ≤ 1000 := by
                have e := congrArg List.length hqp
                simp only [List.length_map] at e
                have := S.posts_len (L.take i ++ [⟨c.id, c.key, c.w.take j⟩]) x'
                simp at this
                omega
              have hq2 : ∀ q ∈ qs, q.1.a.length ≤ 1000 := by
                intro q hq
                have hm9 : q.1 ∈ (S.posts (L.take i ++ [⟨c.id, c.key, c.w.take j⟩]) x').map S.pt := by rw [← hqp]; exact List.mem_map_of_mem hq
                obtain ⟨p, hp, hpe⟩ := List.mem_map.1 hm9
                rw [← hpe]
                refine S.posts_sizes hp fun c' hc' => ?_
                rcases List.mem_append.1 hc' with h9 | h9
                · have := hcw c' (List.mem_of_mem_take h9); omega
                · simp only [List.mem_singleton] at h9
                  subst h9
                  simp
                  omega
              obtain ⟨gA, capA, hu6, hbA, hlA⟩ := hrow.form (by omega)
              subst hu6
              have hgA : w.heap.size + 1 ≤ gA := hbA
              have r1 : wr.cell? ⟨gA, n * 2 + 1, none⟩ = some (.slice sa qs.length sc) := by
                have := hrow.cells (g := gA) rfl (n * 2 + 1) _ (by rw [flat_at encS_len hsn 1 (by decide)]; rfl)
                simpa [Addr.add_lit, sv] using this
              have hil2 : i ≤ 64 := by omega
              have CB := behind_any (sa, qs.length, sc) qs i j (w.heap.size + 1) wr hO hws hq1 hq2
              have HN1 := hide hn
              have HSN := hide hsn
              have HXW := hide hx
              have HO := hide hO
              clear hc1 hx hx' hqp hq1 hq2 hn hsn hO
              go_wp2_with (first
                | (at_lookup; refine lookup_num rfl _ _ rfl rfl hown (unhide HN) (unhide HN1) hnl hns rfl ?_)
                | (go_at_call 73; refine CB.mono ?_; rintro e w2 ⟨⟨sa', sn', sc'⟩, qs', rfl, OB, QB, BB, KB⟩
                   have RW2 := own_keep hrow (fun b' hb' => KB.2 b' (hrow.lt b' hb').2 (fun hm => (unhide HO).far hrow hb' hm rfl))
                   have r2 : w2.cell? ⟨gA, n * 2 + 1, none⟩ = some (.slice sa qs.length sc) := by
                     have := RW2.cells (g := gA) rfl (n * 2 + 1) _ (by rw [flat_at encS_len (unhide HSN) 1 (by decide)]; rfl)
                     simpa [Addr.add_lit, sv] using this
                   have f2 : w2.frozen? ⟨gA, n * 2 + 1, none⟩ = false := RW2.frozenAt (n * 2 + 1)
                   simp only [sv]))
              have HQB := hide QB
              have ST2 : St (w.heap.size + 1) (w2.setCell ⟨gA, n * 2 + 1, none⟩ (.slice sa' sn' sc')) (st2.set n (x', (sa', sn', sc'), qs')) := by
                have S2 := hst.step (unhide HSN) OB BB KB
                refine S2.keep fun y hy k hk => Below.heap_setCell w2 _ _ k fun e => ?_
                exact (S2.1 y hy).far RW2 rfl hk e
              have RW3 : (w2.setCell ⟨gA, n * 2 + 1, none⟩ (.slice sa' sn' sc')).ownsRow (w.heap.size + 1) 66 2 (.slice (some ⟨gA, 0, none⟩) ws.length capA) ws.length ((st2.set n (x', (sa', sn', sc'), qs')).flatMap encS) := by
                have := (RW2.stored (n * 2 + 1) (.slice sa' sn' sc')).1
                rw [flat_set encS_len (y' := (x', (sa', sn', sc'), qs')) (unhide HSN) (by decide) rfl] at this
                exact this
              have M3 : (w2.setCell ⟨gA, n * 2 + 1, none⟩ (.slice sa' sn' sc')).ownsMap Try.prog 9 (plainElem Try.prog 3) w.heap.size ws.length M := (map_keep hown (KB.2 _ hown.lt fun hm => by have := ((unhide HO).lt hm).1; omega)).setCell (by show w.heap.size ≠ gA; omega) _
              have B3 : Below w.heap.size w (w2.setCell ⟨gA, n * 2 + 1, none⟩ (.slice sa' sn' sc')) := (hbel.trans (KB.below (by omega) fun k hk => by have := ((unhide HO).lt hk).1; omega)).setCell (by show w.heap.size ≤ gA; omega) _
              have hs3 : w.heap.size + 1 ≤ (w2.setCell ⟨gA, n * 2 + 1, none⟩ (.slice sa' sn' sc')).heap.size := by have := KB.1.size; simp; omega
              clear RW2 r2 f2 OB BB KB hst hrow hown hbel QB
              go_roundw
              case rel =>
                refine ⟨j + 1, _, by omega, by go_num, ?_, ST2, M3, RW3, B3, hs3⟩
                have hli : (L.take i).length = i := by simp; omega
                refine (unhide HC).step (unhide HR) (unhide HXW) (unhide HSN) ?_
                rw [hli]
                exact unhide HQB
              case measure => simp [intOf]; omega
            · have hkl : j = c.w.length := by omega
              go_wp2
              go_roundw
              case rel =>
                refine ⟨i + 1, st2, by omega, by go_num, ?_, hst, hown, hrow, hbel, hws⟩
                have e := unhide HC
                have e2 : c.w.take j = c.w := List.take_of_length_le (by omega)
                rw [e2] at e
                rw [take_snoc8 (unhide HX)]
                exact e
              case measure => simp [intOf]; omega
        · have hkl : i = L.length := by omega
          have HC1 := unhide HC
          rw [List.take_of_length_le (by omega)] at HC1
          have T1 : TS (w.heap.size + 1) wr u6 ws L := ⟨st1, HC1, hst, hrow⟩
          go_wp2
          go_ret
          exact ⟨_, rfl, T1, hbel⟩
end Go.Proofs.Ytonhehhmnobciaa
