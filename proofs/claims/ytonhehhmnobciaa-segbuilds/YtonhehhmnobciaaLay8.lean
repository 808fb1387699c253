/-
  The contract of lay: a word put down at all of its places, which are free.
-/
import Derived.Test.YtonhehhmnobciaaKey8
import Derived.Test.YtonhehhmnobciaaSmall6
import Derived.Test.YtonhehhmnobciaaMayAll8
namespace Go.Proofs.Ytonhehhmnobciaa
set_option maxRecDepth 100000
open Go.RowKit Go.WideMaps Go.Maps

theorem grown_trans' {w w1 w2 : World} {b : Nat} (h : w.grownBy w1 (some b)) (k : w1.grownBy w2 (some b)) : w.grownBy w2 (some b) := h.trans k
theorem grown_all {w w1 : World} {b : Nat} (h : w.grownBy w1 (some b)) (o : Obj) : w.grownBy (w1.alloc o) (some b) := h.trans (World.grownBy_alloc _ _ _)
theorem map_block {w : World} {b n : Nat} {M : DataW Unit} (h : Map8 w b n M) : ∃ es cl, w.heap[b]? = some (.map es cl) := by
  obtain ⟨es, cl, h1, -⟩ := h
  exact ⟨es, cl, h1⟩

theorem map_split {α β : Type} (f : α → β) (z : List α) (j : Nat) (h : j < z.length) : z.map f = (z.take j).map f ++ f z[j] :: (z.drop (j + 1)).map f := by
  rw [← List.map_cons, ← List.map_append, ← List.drop_eq_getElem_cons h, List.take_append_drop]

theorem free_at {dn : List S.Spot} {L : List Pt} {i k j : Nat} {p : Pt} {x : Int} (hnd : ((dn ++ L.flatMap (S.sp i)).map (·.1)).Nodup) (hk : L[k]? = some p) (hj : p.a[j]? = some x) : ∀ i', ((p.d, x), i') ∉ dn ++ (L.take k).flatMap (S.sp i) ++ (p.a.take j).map (fun y => ((p.d, y), i)) := by
  intro i' hi'
  obtain ⟨hkl, rfl⟩ := List.getElem?_eq_some_iff.1 hk
  obtain ⟨hjl, rfl⟩ := List.getElem?_eq_some_iff.1 hj
  have e : dn ++ L.flatMap (S.sp i) = (dn ++ (L.take k).flatMap (S.sp i) ++ (L[k].a.take j).map (fun y => ((L[k].d, y), i))) ++ (((L[k].d, L[k].a[j]), i) :: ((L[k].a.drop (j + 1)).map (fun y => ((L[k].d, y), i)) ++ (L.drop (k + 1)).flatMap (S.sp i))) := by
    have e1 : L = L.take k ++ (L[k] :: L.drop (k + 1)) := by rw [← List.drop_eq_getElem_cons hkl, List.take_append_drop]
    have e2 : S.sp i L[k] = (L[k].a.take j).map (fun y => ((L[k].d, y), i)) ++ (((L[k].d, L[k].a[j]), i) :: (L[k].a.drop (j + 1)).map (fun y => ((L[k].d, y), i))) := by
      exact map_split _ _ _ hjl
    conv => lhs; rw [e1, List.flatMap_append, List.flatMap_cons, e2]
    simp [List.append_assoc]
  rw [e, List.map_append, List.nodup_append] at hnd
  exact hnd.2.2 (L[k].d, L[k].a[j]) (List.mem_map.2 ⟨_, hi', rfl⟩) (L[k].d, L[k].a[j]) (by simp) rfl

set_option maxRecDepth 100000 in
set_option maxHeartbeats 4000000 in
theorem lay_any (b : Nat) (lv : Value) (lens : List Int) (i : Nat) (pv : Value) (L : List Pt) (w : World) (M0 : DataW Unit) (dn : List S.Spot) (ho0 : Map8 w b dn.length M0) (hT0 : Tel M0 dn) (hl : Sl .i64 w lv lens) (hp : Pl w pv L) (hne : 0 < L.length) (hmay : Q.may L = true)
    (hnd : ((dn ++ L.flatMap (S.sp i)).map (·.1)).Nodup) (hin : ∀ p ∈ L, ∀ k ∈ p.a, ∃ d : Nat, p.d = d ∧ d < 64 ∧ 0 ≤ k ∧ k < 120 ∧ ∃ z, lens[d]? = some z ∧ k < z) (hbig : (dn ++ L.flatMap (S.sp i)).length ≤ 100000) (hi : i ≤ 1000) :
    Calls Try.prog 83 #[.map (some b), lv, .int .i64 (i : Int), pv] w fun e w' => e = .returned (.bool true) ∧ ∃ M', Map8 w' b (dn ++ L.flatMap (S.sp i)).length M' ∧ Tel M' (dn ++ L.flatMap (S.sp i)) ∧ w.grownBy w' (some b) := by
  obtain ⟨a, cap, rfl, hpl, hpm, hpa, hpo⟩ := hp.open
  obtain ⟨a2, cap2, rfl, hll, hlm, hla, hlo⟩ := hl.open
  have HT0 := hide hT0
  have HIN := hide hin
  have HND := hide hnd
  have CM := pmay_any _ _ _ hp
  rw [hmay] at CM
  have h0 : ((L.length : Int) == 0) = false := beq_eq_false_iff_ne.2 (by omega)
  clear hT0 hin hnd
  go_enter Try.func83, Try.ntmps83
  go_wp2_with (go_at_call 79; refine CM.mono ?_; rintro e w1 ⟨rfl, B1⟩)
  have M1 : Map8 w1 b dn.length M0 := map_keep ho0 (B1.block _ ho0.lt)
  have g1 : w.grownBy w1 (some b) := grown_below B1 _
  clear B1 CM hp hl
  go_loopw [26] (fun iv wr => ∃ (k : Nat) (M : DataW Unit) (dk : List S.Spot), k ≤ L.length ∧ iv = .int .i64 k ∧ Hid (dk = dn ++ (L.take k).flatMap (S.sp i)) ∧ Map8 wr b dk.length M ∧ Hid (Tel M dk) ∧ w.grownBy wr (some b)) (fun iv _ => L.length - (intOf iv).toNat)
  case atStart => exact ⟨0, M0, dn, Nat.zero_le _, rfl, by (show _ = _; simp), M1, HT0, g1⟩
  case round =>
    clear M1 g1
    obtain ⟨k, M, dk, hk, rfl, HD, hown, HT, hg⟩ := hrel
    have hSt := Stays.of_map (map_block ho0).choose_spec.choose_spec hg
    by_cases hlt : k < L.length
    · obtain ⟨bb, off, rfl, hbb, hc⟩ := hpo (by omega)
      obtain ⟨p, hx⟩ : ∃ p, L[k]? = some p := ⟨L[k], List.getElem?_eq_getElem hlt⟩
      obtain ⟨da, dc, c0, c1, S2⟩ := hc k p hx
      have d0 := hSt _ _ c0
      have d1 := hSt _ _ c1
      have HX := hide hx
      have hpb : wr.heap.size < (wr.alloc (.cells #[.int .i64 p.d, .slice da p.a.length dc] 51)).heap.size := by simp
      obtain ⟨sa, sc, hv', hsl, hsm, -, hoA⟩ := S2.open
      simp only [Value.slice.injEq, true_and] at hv'
      obtain ⟨rfl, rfl⟩ := hv'
      have MW := hown.alloc (.cells #[.int .i64 p.d, .slice da p.a.length dc] 51)
      have GW := grown_all hg (.cells #[.int .i64 p.d, .slice da p.a.length dc] 51)
      have zW : (wr.alloc (.cells #[.int .i64 p.d, .slice da p.a.length dc] 51)).cell? ⟨wr.heap.size, 0, none⟩ = some (.int .i64 p.d) := by simp
      have HPA : Hid (∀ x ∈ p.a, ∃ d : Nat, p.d = d ∧ d < 64 ∧ 0 ≤ x ∧ x < 120 ∧ ∃ z, lens[d]? = some z ∧ x < z) := unhide HIN p (List.mem_of_getElem? hx)
      rename World => w9
      clear hc c0 c1 hx hown hg
      go_wp2
      go_loopw [33] (fun jv wr => ∃ (j : Nat) (M : DataW Unit) (dj : List S.Spot), j ≤ p.a.length ∧ jv = .int .i64 j ∧ Hid (dj = dk ++ (p.a.take j).map (fun y => ((p.d, y), i))) ∧ Map8 wr b dj.length M ∧ Hid (Tel M dj) ∧ w.grownBy wr (some b) ∧ wr.cell? ⟨w9.heap.size, 0, none⟩ = some (.int .i64 p.d)) (fun jv _ => p.a.length - (intOf jv).toNat)
      case atStart => exact ⟨0, M, dk, Nat.zero_le _, rfl, by (show _ = _; simp), MW, HT, GW, zW⟩
      case round =>
        clear MW GW zW hSt d0 d1 HT
        obtain ⟨j, M2, dj, hj, rfl, HDJ, hown, HT, hg, zp⟩ := hrel
        have hSt := Stays.of_map (map_block ho0).choose_spec.choose_spec hg
        by_cases hlt2 : j < p.a.length
        · obtain ⟨b1, off1, rfl, hb1, hc1⟩ := hoA (by omega)
          obtain ⟨x, hx⟩ : ∃ x, p.a[j]? = some x := ⟨p.a[j], List.getElem?_eq_getElem hlt2⟩
          have e0 : wr.cell? ⟨b1, off1 + j, none⟩ = some (.int .i64 x) := by
            have := hSt _ _ (hc1 j hlt2)
            simpa [List.getD, hx] using this
          obtain ⟨d, hpd, hd64, hx0, hx1, z, hz, hxz⟩ := unhide HPA x (List.mem_of_getElem? hx)
          have hdl := (List.getElem?_eq_some_iff.1 hz).1
          obtain ⟨b2, off2, rfl, hb2, hc2⟩ := hlo (by omega)
          have e1 : wr.cell? ⟨b2, off2 + d, none⟩ = some (.int .i64 z) := by
            have := hSt _ _ (hc2 d hdl)
            simpa [List.getD, hz] using this
          have HF : Hid (∀ i', (((d : Int), x), i') ∉ dj) := by
            intro i' hi'
            rw [unhide HDJ, unhide HD, ← hpd] at hi'
            exact free_at (unhide HND) (unhide HX) hx i' hi'
          have HXJ := hide hx
          have HLT := hide hlt2
          have hwd : (Lit.int .i64 (d : Int)).wf = true := WalkArith.wf_i64 (by omega)
          have hwx : (Lit.int .i64 x).wf = true := by
            obtain ⟨xn, rfl⟩ := Int.eq_ofNat_of_zero_le hx0
            exact WalkArith.wf_i64 (by omega)
          rw [hpd] at zp
          have HPD := hide hpd
          have hdl' : (d : Int) < (lens.length : Int) := by omega
          have hbj : dj.length ≤ 100000 := by
            have e9 := unhide HDJ
            rw [unhide HD] at e9
            have e8 : dj.length ≤ (dn ++ L.flatMap (S.sp i)).length := by
              rw [e9]
              have hkl' := (List.getElem?_eq_some_iff.1 (unhide HX)).1
              have e1 : L.flatMap (S.sp i) = (L.take k).flatMap (S.sp i) ++ (S.sp i p ++ (L.drop (k + 1)).flatMap (S.sp i)) := by
                have : L = L.take k ++ (p :: L.drop (k + 1)) := by
                  rw [← (List.getElem?_eq_some_iff.1 (unhide HX)).2, ← List.drop_eq_getElem_cons hkl', List.take_append_drop]
                conv => lhs; rw [this]
                simp
              rw [e1]
              simp [S.sp]
              omega
            omega
          obtain ⟨l9, hl9⟩ := key8 (d : Int) x hwd hwx
          have hown' := hown.alloc (.cells #[.int .i64 (d : Int), .int .i64 x] 107)
          have HS9 := hide ((unhide HT).step (hown.tidy keyed8) hl9 (unhide HF) i)
          have zp' := cell_keep zp (below_alloc wr (.cells #[.int .i64 (d : Int), .int .i64 x] 107))
          have hg' := grown_all hg (.cells #[.int .i64 (d : Int), .int .i64 x] 107)
          have hzp : w9.heap.size < wr.heap.size := World.block_lt_of_cell? wr _ zp
          have hxz' : ¬ z ≤ x := by omega
          have hb2' : b2 < wr.heap.size := World.block_lt_of_cell? wr _ e1
          clear hc1 hc2 hx hz hown hpd
          go_wp2_with (first
            | (at_lookup; refine lookup_free rfl _ _ rfl rfl hown' (unhide HT) hwd hwx (unhide HF) rfl ?_; intro cc)
            | (at_mapUpdate; refine wpList_mapUpdate_own _ rfl _ _ _ 76 rfl 107 3 keyed8 Try.underlying76 _ b dj.length M2 rfl hown' (by unfold maxLen; omega) _ _ _ rfl rfl hl9 _ [] (plainElem_int Try.underlying3 (WalkArith.wf_i64 (by omega))) ?_))
          intro w1 hown1 hgrow1
          have zp1 := Stays.of_map (map_block hown').choose_spec.choose_spec hgrow1 _ _ zp'
          have hg1 := hg'.trans hgrow1
          clear hgrow1 zp' hg' hown' zp
          go_wp2
          go_roundw
          case rel =>
            refine ⟨j + 1, _, dj ++ [(((d : Int), x), i)], by have := unhide HLT; omega, by go_num, ?_, by simpa using hown1, unhide HS9, hg1, by rw [unhide HPD]; exact zp1⟩
            show _ = _
            rw [unhide HDJ, take_snoc8 (unhide HXJ), List.map_append, unhide HPD]
            simp
          case measure => (have := unhide HLT; simp [intOf]; omega)
        · have hjl : j = p.a.length := by omega
          go_wp2
          go_roundw
          case rel =>
            refine ⟨k + 1, M2, dj, by omega, by go_num, ?_, hown, HT, hg⟩
            show _ = _
            have e2 : p.a.take j = p.a := List.take_of_length_le (by omega)
            rw [unhide HDJ, e2, unhide HD, take_snoc8 (unhide HX)]
            simp [S.sp]
          case measure => simp [intOf]; omega
    · have e : dk = dn ++ L.flatMap (S.sp i) := by rw [unhide HD, List.take_of_length_le (by omega)]
      subst e
      go_wp2
      go_ret
      exact ⟨rfl, M, hown, unhide HT, hg⟩
end Go.Proofs.Ytonhehhmnobciaa
