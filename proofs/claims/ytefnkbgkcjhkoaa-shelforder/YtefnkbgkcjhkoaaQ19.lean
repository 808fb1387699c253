/-
  Texts put together: Put13, Awake13, RPut13.
-/
import Derived.Test.YtefnkbgkcjhkoaaQ15
import Derived.Test.YtefnkbgkcjhkoaaQ18
import Derived.Shelf.Abstract
import Derived.Test.YtefnkbgkcjhkoaaQ12
import Derived.Deep.RegionHeld3
/-
  The contracts of Put, Del and ByKey.
-/
namespace Go.Proofs.Ytefnkbgkcjhkoaa
set_option maxRecDepth 100000
open Go.RowKit

theorem H.may_one {c : Cd} : H.may [c] = S.fits c := by simp [H.may, H.rise]
theorem H.put_arg {L : List Cd} {c : Cd} (h : H.may L = false ∨ S.fits c = false) : H.putE L c = 1 ∧ H.putA L c = L := by
  have e : H.putE L c = 1 := if_neg fun g => by
    rcases h with h | h
    · rw [g.1] at h; cases h
    · rw [g.2] at h; cases h
  exact ⟨e, H.putA_no (by rw [e]; decide)⟩
theorem H.put_full {L : List Cd} {c : Cd} (h1 : H.may L = true) (h2 : S.fits c = true) (h3 : H.has L c.id = false) (h4 : L.length = 1100) : H.putE L c = 4 ∧ H.putA L c = L := by
  have e : H.putE L c = 4 := by
    rw [H.putE, if_pos ⟨h1, h2⟩, if_neg]
    rintro (g | g)
    · rw [h3] at g; cases g
    · omega
  exact ⟨e, H.putA_no (by rw [e]; decide)⟩
theorem H.put_done {L : List Cd} {c : Cd} (h1 : H.may L = true) (h2 : S.fits c = true) (h3 : H.has L c.id = true ∨ L.length < 1100) : H.putE L c = 0 ∧ H.putA L c = H.put L c := by
  have e : H.putE L c = 0 := H.putE_ok.2 ⟨h1, h2, h3⟩
  exact ⟨e, H.putA_ok e⟩

/-- What Put tells. -/
def PutEnd13 (w : World) (L : List Cd) (c : Cd) (e : Ending) (w' : World) : Prop := ∃ v', e = .returned (.tuple #[v', .int .i64 (H.putE L c)]) ∧ Cs w' v' (H.putA L c) ∧ Below w.heap.size w w'

set_option maxRecDepth 100000 in
set_option maxHeartbeats 8000000 in
theorem put13_any (v : Value) (L : List Cd) (c : Cd) (wa : Option Addr) (wc : Nat) (w : World) (h : Cs w v L) (hG : Gl .string w (.slice wa c.w.length wc) c.w) (hll : L.length * 48 ≤ 140737488351232) (hws : ∀ x ∈ L, x.w.length * 16 ≤ 140737488351232) :
    Calls Try.prog 18 #[v, .agg #[.string c.id, .int .i64 c.key, .slice wa c.w.length wc]] w fun e w' => PutEnd13 w L c e w' := by
  obtain ⟨W, hW⟩ : ∃ W, W = w.alloc (.cells #[.string c.id, .int .i64 c.key, .slice wa c.w.length wc] 30) := ⟨_, rfl⟩
  have BW : Below w.heap.size w W := by rw [hW]; exact below_alloc _ _
  have HC0 := h.below BW
  have HG0 := hG.below BW
  have CO1 := own13_any v L W HC0 hll hws
  obtain ⟨a, cap, rfl, h1, h2, hna, -⟩ := h.open
  have x0 : W.cell? ⟨w.heap.size, 0, none⟩ = some (.string c.id) := by rw [hW]; exact box_cell (heap_alloc_new w _) rfl
  have x1 : W.cell? ⟨w.heap.size, 1, none⟩ = some (.int .i64 c.key) := by rw [hW]; exact box_cell (heap_alloc_new w _) rfl
  have x2 : W.cell? ⟨w.heap.size, 2, none⟩ = some (.slice wa c.w.length wc) := by rw [hW]; exact box_cell (heap_alloc_new w _) rfl
  have HW := hide hW
  clear hW h hG
  obtain ⟨m, hm⟩ : ∃ m, H.may L = m := ⟨_, rfl⟩
  have HM := hide hm
  clear hm
  go_enter Try.func18, Try.ntmps18
  go_wp2_with fail
  rw [← unhide HW]
  refine CO1.mono ?_
  rintro e w1 ⟨v1, ps, rfl, hps, C1, B1⟩
  have CM := may13_any _ L w1 (HC0.below B1)
  rw [unhide HM] at CM
  obtain ⟨a1, c1, rfl⟩ := C1.shape hps
  have HPS := hide hps
  have HC1 := hide C1
  replace x0 := cell_keep x0 B1
  replace x1 := cell_keep x1 B1
  replace x2 := cell_keep x2 B1
  clear CO1 C1 hps
  go_wp2_with fail
  refine CM.mono ?_
  rintro e w2 ⟨rfl, B2⟩
  have BB1 := below_trans' B1 B2
  have HC2 := hide ((unhide HC1).below B2)
  replace x0 := cell_keep x0 B2
  replace x1 := cell_keep x1 B2
  replace x2 := cell_keep x2 B2
  clear CM HC1 B1 B2
  cases m with
  | false =>
    have HE := hide (H.put_arg (L := L) (c := c) (.inl (unhide HM)))
    go_wp2
    exact bodyPost_ret (v := .tuple #[.slice a1 L.length c1, .int .i64 1]) (by simp [results, Try.results18, go_sem]) rfl ⟨_, by rw [(unhide HE).1], by rw [(unhide HE).2]; exact (unhide HC2).csL (unhide HPS), below_trans' BW BB1⟩
  | true =>
    obtain ⟨W3, hW3⟩ : ∃ W3, W3 = w2.alloc (.cells #[.string c.id, .int .i64 c.key, .slice wa c.w.length wc] 30) := ⟨_, rfl⟩
    have B3 : Below w2.heap.size w2 W3 := by rw [hW3]; exact below_alloc _ _
    have BB3 := below_trans' BB1 B3
    have y0 : W3.cell? ⟨w2.heap.size, 0, none⟩ = some (.string c.id) := by rw [hW3]; exact box_cell (heap_alloc_new w2 _) rfl
    have y1 : W3.cell? ⟨w2.heap.size, 1, none⟩ = some (.int .i64 c.key) := by rw [hW3]; exact box_cell (heap_alloc_new w2 _) rfl
    have y2 : W3.cell? ⟨w2.heap.size, 2, none⟩ = some (.slice wa c.w.length wc) := by rw [hW3]; exact box_cell (heap_alloc_new w2 _) rfl
    have CF := may13_any _ [c] W3 (Cs.one13 y0 y1 y2 (HG0.below BB3))
    rw [H.may_one] at CF
    obtain ⟨f, hf⟩ : ∃ f, S.fits c = f := ⟨_, rfl⟩
    rw [hf] at CF
    have HF := hide hf
    have HC3 := hide ((unhide HC2).below B3)
    have HW3 := hide hW3
    have z0 := cell_keep x0 B3
    have z1 := cell_keep x1 B3
    have z2 := cell_keep x2 B3
    clear hf hW3 y0 y1 y2 HC2 B3
    go_wp2_with fail
    rw [← unhide HW3]
    refine CF.mono ?_
    rintro e w4 ⟨rfl, B4⟩
    have BB4 := below_trans' BB3 B4
    have HC4 := hide ((unhide HC3).below B4)
    replace z0 := cell_keep z0 B4
    replace z1 := cell_keep z1 B4
    replace z2 := cell_keep z2 B4
    clear CF HC3 B4 BB3 x0 x1 x2 HW3
    cases f with
    | false =>
      have HE := hide (H.put_arg (L := L) (c := c) (.inr (unhide HF)))
      go_wp2
      exact bodyPost_ret (v := .tuple #[.slice a1 L.length c1, .int .i64 1]) (by simp [results, Try.results18, go_sem]) rfl ⟨_, by rw [(unhide HE).1], by rw [(unhide HE).2]; exact (unhide HC4).csL (unhide HPS), below_trans' BW BB4⟩
    | true =>
      obtain ⟨hlm, hmf, hup⟩ := H.may_iff.1 (unhide HM)
      have CS := stand_any _ L c.id w4 (HC0.below BB4) (by omega) hup
      obtain ⟨s, hs⟩ : ∃ s, H.has L c.id = s := ⟨_, rfl⟩
      obtain ⟨k, hk⟩ : ∃ k, (H.low L c.id).length = k := ⟨_, rfl⟩
      have hkl := H.low_le L c.id
      rw [hs, hk] at CS
      rw [hk] at hkl
      have HS := hide hs
      have HK := hide hk
      have HUP := hide hup
      have hcw : c.w.length * 16 ≤ 140737488351232 := by
        have := unhide HF
        simp only [S.fits, Bool.and_eq_true, decide_eq_true_eq] at this
        omega
      clear hs hk hmf hup
      go_wp2_with fail
      refine CS.mono ?_
      rintro e w5 ⟨rfl, B5⟩
      have BB5 := below_trans' BB4 B5
      have HC5 := hide ((unhide HC4).below B5)
      replace z0 := cell_keep z0 B5
      replace z1 := cell_keep z1 B5
      replace z2 := cell_keep z2 B5
      have CC := ownCard_any c wa wc w5 (HG0.below BB5) hcw
      have hb5 := BB5.size
      clear CS HC4 B5 BB4
      cases s with
      | true =>
        have hkk : k < L.length := by have := H.has_lt (unhide HUP) (unhide HS); rw [unhide HK] at this; exact this
        have HE := hide (H.put_done (L := L) (c := c) (unhide HM) (unhide HF) (.inl (unhide HS)))
        have HPT := hide (H.put_has (unhide HUP) (unhide HS))
        go_wp2_with fail
        refine CC.mono ?_
        rintro e w6 ⟨a6, c6, rfl, W6, B6⟩
        have BB6 := below_trans' BB5 B6
        have C6 := (unhide HC5).below B6
        have hpl : ps.length = L.length := by rw [← unhide HPS, List.length_map]
        obtain ⟨g, rfl⟩ : ∃ g, a1 = some ⟨g, 0, none⟩ := by
          rcases own_form C6.1 with ⟨h9, h0⟩ | ⟨g, cap9, h9, _⟩
          · omega
          · simp only [Value.slice.injEq] at h9
            exact ⟨g, h9.1⟩
        obtain ⟨p, hp⟩ : ∃ p, ps[k]? = some p := ⟨ps[k]'(by omega), List.getElem?_eq_getElem _⟩
        have C6' : CO W.heap.size w6 (.slice (some ⟨g, 0, none⟩) ps.length c1) ps := by rw [hpl]; exact C6
        obtain ⟨⟨q0, q1, q2⟩, hfr⟩ := set13_at C6'.1 hp
        have f0 := hfr (k * 3)
        have f1 := hfr (k * 3 + 1)
        have f2 := hfr (k * 3 + 2)
        obtain ⟨E1, E2⟩ := set13_end C6' c a6 c6 W6 hb5 BB6.size k
        have HEND : Hid (Cs (set13 w6 g (k * 3) c (.slice a6 c.w.length c6)) (.slice (some ⟨g, 0, none⟩) L.length c1) (H.put L c) ∧ Below w.heap.size w (set13 w6 g (k * 3) c (.slice a6 c.w.length c6))) := by
          refine ⟨?_, below_trans' BW (BB6.trans E2)⟩
          have := E1.csL (L := H.put L c) (by rw [unhide HPT, unhide HK, List.map_set, unhide HPS])
          rw [hpl] at this
          exact this
        clear CC W6 B6 BB6 C6 C6' hp hfr E1 E2 HC5 hpl z0 z1 z2
        unfold set13 at HEND
        go_wp2
        exact bodyPost_ret (v := .tuple #[.slice (some ⟨g, 0, none⟩) L.length c1, .int .i64 0]) (by simp [results, Try.results18, go_sem]) rfl ⟨_, by rw [(unhide HE).1], by rw [(unhide HE).2]; exact (unhide HEND).1, (unhide HEND).2⟩
      | false =>
        by_cases hfull : L.length = 1100
        · have q1 : ((L.length : Int) == 1100) = true := by rw [hfull]; rfl
          have HE := hide (H.put_full (L := L) (c := c) (unhide HM) (unhide HF) (unhide HS) hfull)
          clear CC hfull
          go_wp2
          exact bodyPost_ret (v := .tuple #[.slice a1 L.length c1, .int .i64 4]) (by simp [results, Try.results18, go_sem]) rfl ⟨_, by rw [(unhide HE).1], by rw [(unhide HE).2]; exact (unhide HC5).csL (unhide HPS), below_trans' BW BB5⟩
        · have q1 : ((L.length : Int) == 1100) = false := beq_eq_false_iff_ne.2 (by omega)
          have HE := hide (H.put_done (L := L) (c := c) (unhide HM) (unhide HF) (.inr (by omega)))
          have HPT := hide (H.put_not (unhide HUP) (unhide HS))
          clear hfull
          go_wp2_with fail
          refine CC.mono ?_
          rintro e w6 ⟨a6, c6, rfl, W6, B6⟩
          have BB6 := below_trans' BB5 B6
          have C6 := (unhide HC5).below B6
          have hpl : ps.length = L.length := by rw [← unhide HPS, List.length_map]
          have CI := insC_call c a6 c6 C6 W6 hb5 BB6.size k (by omega) (by omega)
          clear CC W6 B6 C6 HC5 z0 z1 z2
          go_wp2_with fail
          refine CI.mono ?_
          rintro e w7 ⟨v7, rfl, C7, B7⟩
          have HEND : Hid (Cs w7 v7 (H.put L c) ∧ Below w.heap.size w w7) := by
            refine ⟨C7.csL ?_, below_trans' BW (BB6.trans B7)⟩
            rw [unhide HPT, unhide HK, ← unhide HPS]
            simp [List.map_take, List.map_drop]
          clear CI C7 B7
          go_wp2
          exact bodyPost_ret (v := .tuple #[v7, .int .i64 0]) (by simp [results, Try.results18, go_sem]) rfl ⟨_, by rw [(unhide HE).1], by rw [(unhide HE).2]; exact (unhide HEND).1, (unhide HEND).2⟩

/-- What Del tells. -/
def DelEnd13 (w : World) (L : List Cd) (id : ByteArray) (e : Ending) (w' : World) : Prop := ∃ v', e = .returned (.tuple #[v', .bool (H.delB L id)]) ∧ Cs w' v' (H.delA L id) ∧ Below w.heap.size w w'

set_option maxRecDepth 100000 in
set_option maxHeartbeats 8000000 in
theorem del13_any (v : Value) (L : List Cd) (id : ByteArray) (w : World) (h : Cs w v L) (hll : L.length * 48 ≤ 140737488351232) (hws : ∀ x ∈ L, x.w.length * 16 ≤ 140737488351232) :
    Calls Try.prog 20 #[v, .string id] w fun e w' => DelEnd13 w L id e w' := by
  have CO1 := own13_any v L w h hll hws
  have H0 := h
  obtain ⟨a, cap, rfl, h1, h2, hna, -⟩ := h.open
  obtain ⟨d, hd⟩ : ∃ d, H.delB L id = d := ⟨_, rfl⟩
  have HD := hide hd
  clear h hd
  go_enter Try.func20, Try.ntmps20
  go_wp2_with fail
  refine CO1.mono ?_
  rintro e w1 ⟨v1, ps, rfl, hps, C1, B1⟩
  have CF := find13_any _ L id w1 (H0.below B1)
  obtain ⟨n, hn⟩ : ∃ n, H.find L id = n := ⟨_, rfl⟩
  rw [hn] at CF
  obtain ⟨a1, c1, rfl⟩ := C1.shape hps
  have HPS := hide hps
  have HC1 := hide C1
  have HN := hide hn
  clear CO1 C1 hps hn
  go_wp2_with fail
  refine CF.mono ?_
  rintro e w2 ⟨rfl, B2⟩
  have BB := below_trans' B1 B2
  have C2 := (unhide HC1).below B2
  have hbs := BB.size
  clear CF HC1 B1 B2
  cases d with
  | false =>
    have hn1 : n = -1 := by rw [← unhide HN]; exact H.find_neg (unhide HD)
    subst hn1
    have HEND := hide (C2.csL (unhide HPS))
    have HE : Hid (H.delA L id = L) := if_neg (by rw [unhide HD]; decide)
    clear C2
    go_wp2
    exact bodyPost_ret (v := .tuple #[.slice a1 L.length c1, .bool false]) (by simp [results, Try.results20, go_sem]) rfl ⟨_, by rw [unhide HD], by rw [unhide HE]; exact unhide HEND, BB⟩
  | true =>
    obtain ⟨hm, hh⟩ : H.may L = true ∧ H.has L id = true := by have := unhide HD; rwa [H.delB, Bool.and_eq_true] at this
    have hup := H.may_up hm
    obtain ⟨k, hk⟩ : ∃ k, (H.low L id).length = k := ⟨_, rfl⟩
    have hkl := H.has_lt hup hh
    rw [hk] at hkl
    have hn1 : n = (k : Int) := by rw [← unhide HN, H.find_pos (unhide HD), hk]
    subst hn1
    have hne : ((k : Int) == -1) = false := beq_eq_false_iff_ne.2 (by omega)
    have hpl : ps.length = L.length := by rw [← unhide HPS, List.length_map]
    obtain ⟨g, rfl⟩ : ∃ g, a1 = some ⟨g, 0, none⟩ := by
      rcases own_form C2.1 with ⟨h9, h0⟩ | ⟨g, cap9, h9, _⟩
      · omega
      · simp only [Value.slice.injEq] at h9
        exact ⟨g, h9.1⟩
    rw [← hpl] at C2
    have CD := delC_call C2 hbs k (by omega)
    rw [hpl] at CD
    have HE : Hid (H.delA L id = L.take k ++ L.drop (k + 1)) := by
      show _ = _
      rw [H.delA, if_pos (unhide HD), H.del_has hup hh, hk]
    clear hm hh hup hk hpl C2
    go_wp2_with fail
    refine CD.mono ?_
    rintro e w3 ⟨v3, rfl, C3, B3⟩
    have HEND : Hid (Cs w3 v3 (H.delA L id) ∧ Below w.heap.size w w3) := by
      refine ⟨C3.csL ?_, BB.trans B3⟩
      rw [unhide HE, ← unhide HPS]
      simp [List.map_take, List.map_drop]
    clear CD C3 B3
    go_wp2
    exact bodyPost_ret (v := .tuple #[v3, .bool true]) (by simp [results, Try.results20, go_sem]) rfl ⟨_, by rw [unhide HD], (unhide HEND).1, (unhide HEND).2⟩

set_option maxRecDepth 100000 in
set_option maxHeartbeats 8000000 in
theorem byKey13_any (v : Value) (L : List Cd) (w : World) (h : Cs w v L) :
    Calls Try.prog 22 #[v] w fun e w' => ∃ v', e = .returned v' ∧ Cs w' v' (H.keyed L) ∧ Below w.heap.size w w' := by
  have CM := may13_any v L w h
  have H0 := h
  obtain ⟨a, cap, rfl, h1, h2, hna, -⟩ := h.open
  obtain ⟨m, hm⟩ : ∃ m, H.may L = m := ⟨_, rfl⟩
  rw [hm] at CM
  have HM := hide hm
  clear h hm
  go_enter Try.func22, Try.ntmps22
  go_wp2_with fail
  refine CM.mono ?_
  rintro e w1 ⟨rfl, B1⟩
  clear CM
  cases m with
  | false =>
    have HE : Hid (H.keyed L = []) := if_neg (by rw [unhide HM]; decide)
    go_wp2
    go_ret
    exact ⟨_, rfl, by rw [unhide HE]; exact Cs.nil _, B1⟩
  | true =>
    obtain ⟨hlm, hmf, hup⟩ := H.may_iff.1 (unhide HM)
    have HE : Hid (H.keyed L = S.srt L) := if_pos (unhide HM)
    have HUP := hide hup
    have HF := hide hmf
    have eg : ∀ args w, (callFunc 41 args).run Try.prog w = .ok (.enter 41 args) w := enters_of Try.func41 (by kernel_rfl) rfl
    clear hup hmf
    go_wp2
    go_loopw [3, 12] (fun ov iv wr => ∃ (k : Nat) (ps : List (Cd × Pts)), k ≤ L.length ∧ iv = .int .i64 k ∧ ps.length ≤ k ∧ Hid (ps.map (·.1) = S.srt (L.take k)) ∧ Hid (CO w.heap.size wr ov ps) ∧ Below w.heap.size w wr) (fun _ iv _ => L.length - (intOf iv).toNat)
    case atStart => exact ⟨0, [], Nat.zero_le _, rfl, Nat.le_refl _, rfl, hide (CO.nil _ _), B1⟩
    case round =>
      obtain ⟨k, ps, hk, rfl, hpl, HP, HC, hbel⟩ := hrel
      by_cases hlt : k < L.length
      · obtain ⟨a', c', hv', -, -, -, ho⟩ := (H0.below hbel).open
        simp only [Value.slice.injEq, true_and] at hv'
        obtain ⟨rfl, rfl⟩ := hv'
        obtain ⟨b, off, rfl, hb, hc⟩ := ho (by omega)
        obtain ⟨c, hx⟩ : ∃ c, L[k]? = some c := ⟨L[k], List.getElem?_eq_getElem hlt⟩
        obtain ⟨wa, wc, c0, c1, c2, G0⟩ := hc k c hx
        have hcw : c.w.length * 16 ≤ 140737488351232 := by
          have := unhide HF c (List.mem_of_getElem? hx)
          simp only [S.fits, Bool.and_eq_true, decide_eq_true_eq] at this
          omega
        obtain ⟨W, hW⟩ : ∃ W, W = wr.alloc (.cells #[.string c.id, .int .i64 c.key, .slice wa c.w.length wc] 30) := ⟨_, rfl⟩
        have BW : Below wr.heap.size wr W := by rw [hW]; exact below_alloc _ _
        have BB := below_trans' hbel BW
        have d0 : W.cell? ⟨wr.heap.size, 0, none⟩ = some (.string c.id) := by rw [hW]; exact box_cell (heap_alloc_new wr _) rfl
        have d1 : W.cell? ⟨wr.heap.size, 1, none⟩ = some (.int .i64 c.key) := by rw [hW]; exact box_cell (heap_alloc_new wr _) rfl
        have d2 : W.cell? ⟨wr.heap.size, 2, none⟩ = some (.slice wa c.w.length wc) := by rw [hW]; exact box_cell (heap_alloc_new wr _) rfl
        have CW := (unhide HC).below BW
        have hsu := S.srt_up (H.Up.unlike (H.take_up (unhide HUP) k))
        have CF := first_any 41 eg #[.pointer (some ⟨wr.heap.size, 0, none⟩)] (S.before c) _ (S.srt (L.take k)) W (CW.csL (unhide HP)) (by rw [H.srt_len]; have := List.length_take_le k L; omega) (H.bef_once hsu c)
          (fun x _ xa xc w9 B9 => byKey1_any c x xa wa x.w.length xc c.w.length wc wr.heap.size w9 (cell_keep d0 B9) (cell_keep d1 B9) (cell_keep d2 B9))
        obtain ⟨j, hj⟩ : ∃ j, H.cut (S.before c) (S.srt (L.take k)) = j := ⟨_, rfl⟩
        have hjl := H.cut_le (S.before c) (S.srt (L.take k))
        rw [hj] at CF hjl
        have hjp : j ≤ ps.length := by
          have : ps.length = (S.srt (L.take k)).length := by rw [← unhide HP, List.length_map]
          omega
        have HNX : Hid (S.srt (L.take (k + 1)) = (S.srt (L.take k)).take j ++ c :: (S.srt (L.take k)).drop j) := by
          show _ = _
          rw [H.srt_take hx, H.ins_cut hsu (H.next_unlike (unhide HUP) hx), hj]
        have HGW := hide (G0.below BW)
        have HCW := hide CW
        obtain ⟨av, nv, cv, rfl⟩ : ∃ av nv cv, u3 = .slice av nv cv := by
          obtain ⟨av, cv, h9⟩ := CW.shape rfl
          exact ⟨_, _, _, h9⟩
        have HW := hide hW
        clear ho hc hx G0 hW hbel HC CW hsu hj hjl BW
        go_wp2_with fail
        rw [← unhide HW]
        refine CF.mono ?_
        rintro e w2 ⟨rfl, B2⟩
        have BB2 := below_trans' BB B2
        have HC2 := hide ((unhide HCW).below B2)
        have CC := ownCard_any c wa wc w2 ((unhide HGW).below B2) hcw
        replace d0 := cell_keep d0 B2
        replace d1 := cell_keep d1 B2
        replace d2 := cell_keep d2 B2
        have hb2 := BB2.size
        clear CF HCW B2 BB HGW c0 c1 c2
        go_wp2_with fail
        refine CC.mono ?_
        rintro e w6 ⟨a6, c6, rfl, W6, B6⟩
        have BB6 := below_trans' BB2 B6
        have C6 := (unhide HC2).below B6
        have CI := insC_call c a6 c6 C6 W6 hb2 BB6.size j hjp (by omega)
        clear CC W6 B6 C6 HC2 d0 d1 d2
        go_wp2_with fail
        refine CI.mono ?_
        rintro e w7 ⟨v7, rfl, C7, B7⟩
        have BB7 := BB6.trans B7
        have HC7 := hide C7
        have HP7 : Hid ((ps.take j ++ (c, ((a6, c.w.length, c6) : Pts)) :: ps.drop j).map (·.1) = S.srt (L.take (k + 1))) := by
          show _ = _
          rw [unhide HNX, ← unhide HP]
          simp [List.map_take, List.map_drop]
        have hl7 : (ps.take j ++ (c, ((a6, c.w.length, c6) : Pts)) :: ps.drop j).length ≤ k + 1 := by simp; omega
        clear CI C7 B7 BB6 BB2
        go_wp2
        go_roundw
        case rel => exact ⟨k + 1, _, by omega, by go_num, hl7, HP7, HC7, BB7⟩
        case measure => simp [intOf]; omega
      · have HF2 : ps.map (·.1) = H.keyed L := by rw [unhide HP, List.take_of_length_le (by omega), unhide HE]
        have HEND := hide ((unhide HC).csL HF2)
        clear HC HF2
        go_wp2
        go_ret
        exact ⟨_, rfl, unhide HEND, hbel⟩
end Go.Proofs.Ytefnkbgkcjhkoaa

/-
  The contract of awake: the chapter's example.
-/
namespace Go.Proofs.Ytefnkbgkcjhkoaa
set_option maxRecDepth 100000
open Go.RowKit

namespace X13
def tA : ByteArray := ⟨#[97]⟩
def tB : ByteArray := ⟨#[98]⟩
def tW : ByteArray := ⟨#[119]⟩
def b1 : Cd := ⟨tB, 1, []⟩
def a2 : Cd := ⟨tA, 2, []⟩
def b3 : Cd := ⟨tB, 3, [tW]⟩
end X13
theorem X13.e1 : H.putE [] X13.b1 = 0 := by kernel_rfl
theorem X13.l1 : H.putA [] X13.b1 = [X13.b1] := by kernel_rfl
theorem X13.e2 : H.putE [X13.b1] X13.a2 = 0 := by kernel_rfl
theorem X13.l2 : H.putA [X13.b1] X13.a2 = [X13.a2, X13.b1] := by kernel_rfl
theorem X13.e3 : H.putE [X13.a2, X13.b1] X13.b3 = 0 := by kernel_rfl
theorem X13.l3 : H.putA [X13.a2, X13.b1] X13.b3 = [X13.a2, X13.b3] := by kernel_rfl
theorem X13.e4 : H.delB [X13.a2, X13.b3] X13.tA = true := by kernel_rfl
theorem X13.l4 : H.delA [X13.a2, X13.b3] X13.tA = [X13.b3] := by kernel_rfl
theorem X13.e5 : H.find [X13.a2, X13.b3] X13.tB = 1 := by kernel_rfl
theorem X13.e6 : H.may [X13.a2, X13.b3] = true := by kernel_rfl
theorem X13.l7 : H.keyed [X13.a2, X13.b1] = [X13.b1, X13.a2] := by kernel_rfl

theorem Gl.none13 (w : World) : Gl .string w (.slice none 0 0) ([] : List ByteArray) := Gl.nil _ _
theorem Cs.lens13 {w : World} {v : Value} {L : List Cd} (h : Cs w v L) {n : Nat} (hn : L.length = n) : ∃ a c, v = .slice a n c := by
  obtain ⟨a, c, e, _⟩ := h.open
  exact ⟨a, c, by rw [← hn]; exact e⟩
/-- The first cell, and the second card's. -/
theorem Cs.at13 {w : World} {a : Option Addr} {n c : Nat} {L : List Cd} (h : Cs w (.slice a n c) L) (h0 : 0 < L.length) : ∃ b off, a = some ⟨b, off, none⟩ ∧ ∀ i x, L[i]? = some x → w.cell? ⟨b, off + i * 3, none⟩ = some (.string x.id) ∧ w.cell? ⟨b, off + i * 3 + 1, none⟩ = some (.int .i64 x.key) := by
  obtain ⟨a', c', e, -, -, -, ho⟩ := h.open
  simp only [Value.slice.injEq] at e
  obtain ⟨rfl, -, -⟩ := e
  obtain ⟨b, off, rfl, -, hc⟩ := ho h0
  exact ⟨b, off, rfl, fun i x hx => by obtain ⟨_, _, d0, d1, _⟩ := hc i x hx; exact ⟨d0, d1⟩⟩

set_option maxRecDepth 100000 in
set_option maxHeartbeats 8000000 in
theorem awake13_any (w : World) : Calls Try.prog 9 #[] w fun e w' => e = .returned (.bool true) ∧ Below w.heap.size w w' := by
  have P1 := put13_any (.slice none 0 0) [] X13.b1 none 0 w (Cs.nil _) (Gl.none13 _) (by decide) (fun x hx => by cases hx)
  unfold PutEnd13 at P1
  rw [X13.e1, X13.l1] at P1
  go_enter Try.func9, Try.ntmps9
  go_wp2_with fail
  refine P1.mono ?_
  rintro e w1 ⟨v1, rfl, C1, B1⟩
  have P2 := put13_any v1 [X13.b1] X13.a2 none 0 w1 C1 (Gl.none13 _) (by decide) (fun x hx => by simp only [List.mem_cons, List.not_mem_nil, or_false] at hx; subst hx; decide)
  unfold PutEnd13 at P2
  rw [X13.e2, X13.l2] at P2
  obtain ⟨a1, n1, rfl⟩ := C1.lens13 rfl
  clear P1 C1
  go_wp2_with fail
  refine P2.mono ?_
  rintro e w2 ⟨v2, rfl, C2, B2⟩
  have BB2 := below_trans' B1 B2
  obtain ⟨W, hW⟩ : ∃ W, W = w2.alloc (.cells #[.string ⟨#[119]⟩] 9) := ⟨_, rfl⟩
  have BW : Below w2.heap.size w2 W := by rw [hW]; exact below_alloc _ _
  have GW : Gl .string W (.slice (some ⟨w2.heap.size, 0, none⟩) 1 1) [X13.tW] := by
    rw [hW]
    refine ⟨_, _, rfl, Nat.le_refl _, by unfold maxLen; omega, (fun h => by cases h), fun x hx i y hi => ?_⟩
    obtain rfl := Option.some.inj hx
    rw [Addr.add_lit, Nat.zero_add]
    match i, hi with
    | 0, hi => simp at hi; subst hi; exact box_cell (heap_alloc_new w2 _) rfl
    | i + 1, hi => simp at hi
  have C2W := C2.below BW
  have P3 := put13_any v2 [X13.a2, X13.b1] X13.b3 (some ⟨w2.heap.size, 0, none⟩) 1 W C2W GW (by decide) (fun x hx => by simp only [List.mem_cons, List.not_mem_nil, or_false] at hx; rcases hx with rfl | rfl <;> decide)
  unfold PutEnd13 at P3
  rw [X13.e3, X13.l3] at P3
  obtain ⟨a2, n2, rfl⟩ := C2.lens13 rfl
  have HW := hide hW
  have BB3 := below_trans' BB2 BW
  clear P2 C2 hW GW B1 B2 BB2 BW
  go_wp2_with fail
  rw [← unhide HW]
  refine P3.mono ?_
  rintro e w4 ⟨v4, rfl, C4, B4⟩
  have BB4 := below_trans' BB3 B4
  have C2' := C2W.below B4
  have P4 := del13_any v4 [X13.a2, X13.b3] X13.tA w4 C4 (by decide) (fun x hx => by simp only [List.mem_cons, List.not_mem_nil, or_false] at hx; rcases hx with rfl | rfl <;> decide)
  unfold DelEnd13 at P4
  rw [X13.e4, X13.l4] at P4
  obtain ⟨a4, n4, rfl⟩ := C4.lens13 rfl
  clear P3 C2W B4 BB3 HW
  go_wp2_with fail
  refine P4.mono ?_
  rintro e w5 ⟨v5, rfl, C5, B5⟩
  have BB5 := below_trans' BB4 B5
  replace C2' := C2'.below B5
  replace C4 := C4.below B5
  obtain ⟨a5, n5, rfl⟩ := C5.lens13 rfl
  obtain ⟨b, off, rfl, hb⟩ := C2'.at13 (by decide)
  obtain ⟨b', off', rfl, hb'⟩ := C4.at13 (by decide)
  have c0 : w5.cell? ⟨b, off, none⟩ = some (.string ⟨#[97]⟩) := (hb 0 _ rfl).1
  have c1 : w5.cell? ⟨b', off' + 3 + 1, none⟩ = some (.int .i64 3) := (hb' 1 _ rfl).2
  have F6 := find13_any _ [X13.a2, X13.b3] X13.tB w5 C4
  rw [X13.e5] at F6
  have he : ((⟨#[97]⟩ : ByteArray).toList == (⟨#[97]⟩ : ByteArray).toList) = true := by simp
  clear P4 B5 BB4 C5 hb hb'
  go_wp2_with fail
  refine F6.mono ?_
  rintro e w6 ⟨rfl, B6⟩
  have BB6 := below_trans' BB5 B6
  replace C2' := C2'.below B6
  replace C4 := C4.below B6
  have F7 := may13_any _ [X13.a2, X13.b3] w6 C4
  rw [X13.e6] at F7
  clear F6 B6 BB5 c0 c1
  go_wp2_with fail
  refine F7.mono ?_
  rintro e w7 ⟨rfl, B7⟩
  have BB7 := below_trans' BB6 B7
  replace C2' := C2'.below B7
  replace C4 := C4.below B7
  have F8 := same13_any _ _ [X13.a2, X13.b3] [X13.a2, X13.b3] w7 C4 C4
  clear F7 B7 BB6
  go_wp2_with fail
  refine F8.mono ?_
  rintro e w8 ⟨r, rfl, hr, B8⟩
  obtain rfl : r = true := hr.2 rfl
  have BB8 := below_trans' BB7 B8
  replace C2' := C2'.below B8
  have F9 := byKey13_any _ [X13.a2, X13.b1] w8 C2'
  rw [X13.l7] at F9
  clear F8 B8 BB7 C4 hr
  go_wp2_with fail
  refine F9.mono ?_
  rintro e w9 ⟨v9, rfl, C9, B9⟩
  have BB9 := below_trans' BB8 B9
  replace C2' := C2'.below B9
  have F10 := byKey13_any _ [X13.a2, X13.b1] w9 C2'
  rw [X13.l7] at F10
  obtain ⟨a9, n9, rfl⟩ := C9.lens13 rfl
  clear F9 B9 BB8 C9
  go_wp2_with fail
  refine F10.mono ?_
  rintro e w10 ⟨v10, rfl, C10, B10⟩
  have BB10 := below_trans' BB9 B10
  obtain ⟨a10, n10, rfl⟩ := C10.lens13 rfl
  obtain ⟨b2, off2, rfl, hb2⟩ := C10.at13 (by decide)
  have d0 : w10.cell? ⟨b2, off2, none⟩ = some (.string ⟨#[98]⟩) := (hb2 0 _ rfl).1
  have he2 : ((⟨#[98]⟩ : ByteArray).toList == (⟨#[98]⟩ : ByteArray).toList) = true := by simp
  clear F10 B10 BB9 C10 hb2 C2'
  go_wp2
  go_ret
  exact ⟨rfl, BB10⟩
end Go.Proofs.Ytefnkbgkcjhkoaa

/-
  The contracts of the document's own Put, Del and ByKey.
-/
namespace Go.Proofs.Ytefnkbgkcjhkoaa
set_option maxRecDepth 100000
open Go.RowKit

theorem H.find_lt {L : List Cd} {id : ByteArray} : decide (H.find L id < 0) = !H.delB L id := by
  cases h : H.delB L id with
  | false => rw [H.find_neg h]; rfl
  | true =>
    rw [H.find_pos h]
    simp
theorem H.has_not {L : List Cd} {id : ByteArray} (h : H.may L = true) (hd : H.delB L id = false) : H.has L id = false := by
  rw [H.delB, h] at hd
  simpa using hd
theorem H.has_yes {L : List Cd} {id : ByteArray} (hd : H.delB L id = true) : H.has L id = true := by
  rw [H.delB, Bool.and_eq_true] at hd
  exact hd.2

set_option maxRecDepth 100000 in
set_option maxHeartbeats 8000000 in
theorem rput13_any (v : Value) (L : List Cd) (c : Cd) (wa : Option Addr) (wc : Nat) (w : World) (h : Cs w v L) (hG : Gl .string w (.slice wa c.w.length wc) c.w) :
    Calls Try.prog 19 #[v, .agg #[.string c.id, .int .i64 c.key, .slice wa c.w.length wc]] w fun e w' => PutEnd13 w L c e w' := by
  obtain ⟨W, hW⟩ : ∃ W, W = w.alloc (.cells #[.string c.id, .int .i64 c.key, .slice wa c.w.length wc] 30) := ⟨_, rfl⟩
  have BW : Below w.heap.size w W := by rw [hW]; exact below_alloc _ _
  have HC0 := h.below BW
  have HG0 := hG.below BW
  have CM := rmay13_any v L W HC0
  obtain ⟨a, cap, rfl, h1, h2, hna, -⟩ := h.open
  have x0 : W.cell? ⟨w.heap.size, 0, none⟩ = some (.string c.id) := by rw [hW]; exact box_cell (heap_alloc_new w _) rfl
  have x1 : W.cell? ⟨w.heap.size, 1, none⟩ = some (.int .i64 c.key) := by rw [hW]; exact box_cell (heap_alloc_new w _) rfl
  have x2 : W.cell? ⟨w.heap.size, 2, none⟩ = some (.slice wa c.w.length wc) := by rw [hW]; exact box_cell (heap_alloc_new w _) rfl
  have HW := hide hW
  clear hW h hG
  obtain ⟨m, hm⟩ : ∃ m, H.may L = m := ⟨_, rfl⟩
  rw [hm] at CM
  have HM := hide hm
  clear hm
  go_enter Try.func19, Try.ntmps19
  go_wp2_with fail
  rw [← unhide HW]
  refine CM.mono ?_
  rintro e w1 ⟨rfl, B1⟩
  obtain ⟨f, hf⟩ : ∃ f, S.fits c = f := ⟨_, rfl⟩
  have CF := rfits_b c wa wc w1 (HG0.below B1) f hf
  have HF := hide hf
  replace x0 := cell_keep x0 B1
  replace x1 := cell_keep x1 B1
  replace x2 := cell_keep x2 B1
  clear CM hf
  go_wp2_with fail
  refine CF.mono ?_
  rintro e w2 ⟨rfl, B2⟩
  have BB2 := below_trans' B1 B2
  replace x0 := cell_keep x0 B2
  replace x1 := cell_keep x1 B2
  replace x2 := cell_keep x2 B2
  have HC2 := hide (HC0.below BB2)
  clear CF B1 B2
  cases m with
  | false =>
    have HE := hide (H.put_arg (L := L) (c := c) (.inl (unhide HM)))
    go_wp2
    exact bodyPost_ret (v := .tuple #[.slice a L.length cap, .int .i64 1]) (by simp [results, Try.results19, go_sem]) rfl ⟨_, by rw [(unhide HE).1], by rw [(unhide HE).2]; exact unhide HC2, below_trans' BW BB2⟩
  | true =>
    cases f with
    | false =>
      have HE := hide (H.put_arg (L := L) (c := c) (.inr (unhide HF)))
      go_wp2
      exact bodyPost_ret (v := .tuple #[.slice a L.length cap, .int .i64 1]) (by simp [results, Try.results19, go_sem]) rfl ⟨_, by rw [(unhide HE).1], by rw [(unhide HE).2]; exact unhide HC2, below_trans' BW BB2⟩
    | true =>
      obtain ⟨hlm, hmf, hup⟩ := H.may_iff.1 (unhide HM)
      have hids : ∀ x ∈ L, x.id.size ≤ 1000 := fun x hx => by have := fits_id (hmf x hx); omega
      have HUP := hide hup
      have HIDS := hide hids
      -- the end, wherever it begins
      have fin : ∀ w3, Below W.heap.size W w3 → (H.has L c.id = true ∨ L.length < 1100) → Hid (Cs w3 (.slice a L.length cap) L ∧ H.putE L c = 0 ∧ H.putA L c = H.put (H.del L c.id) c) := fun w3 B3 hh => by
        obtain ⟨e1, e2⟩ := H.put_done (L := L) (c := c) (unhide HM) (unhide HF) hh
        exact ⟨HC0.below B3, e1, by rw [e2, H.put_del (unhide HUP)]⟩
      have FIN := hide fin
      have hdl : (H.del L c.id).length ≤ 2000 := by have := H.del_le L c.id; omega
      have CW1 := fun w3 (h9 : Cs w3 (.slice a L.length cap) L) => rwithout_any (.slice a L.length cap) L c.id w3 h9 (by omega)
      have CW2 := fun v3 w3 (h9 : Cs w3 v3 (H.del L c.id)) (g9 : Gl .string w3 (.slice wa c.w.length wc) c.w) => rwith_any v3 (H.del L c.id) c wa wc w3 h9 g9 hdl (H.del_up (unhide HUP) _) (fun x hx => unhide HIDS x (H.mem_del.1 hx).1) (H.has_del L c.id)
      clear hmf hup hids fin
      by_cases hfull : L.length = 1100
      · have q1 : ((L.length : Int) == 1100) = true := by rw [hfull]; rfl
        have CFI := rfind13_any (.slice a L.length cap) L c.id w2 (unhide HC2)
        obtain ⟨n, hn⟩ : ∃ n, H.find L c.id = n := ⟨_, rfl⟩
        have hlt := H.find_lt (L := L) (id := c.id)
        rw [hn] at CFI hlt
        obtain ⟨d, hd⟩ : ∃ d, H.delB L c.id = d := ⟨_, rfl⟩
        rw [hd] at hlt
        have HD := hide hd
        have HFULL := hide hfull
        clear hn hd hfull
        go_wp2_with fail
        refine CFI.mono ?_
        rintro e w3 ⟨rfl, B3⟩
        have BB3 := below_trans' BB2 B3
        replace x0 := cell_keep x0 B3
        replace x1 := cell_keep x1 B3
        replace x2 := cell_keep x2 B3
        have HC3 := hide ((unhide HC2).below B3)
        clear CFI B3 BB2 HC2
        cases d with
        | false =>
          have hlt2 : decide (n < 0) = true := hlt
          have hlt3 : n < 0 := of_decide_eq_true hlt2
          have HE := hide (H.put_full (L := L) (c := c) (unhide HM) (unhide HF) (H.has_not (unhide HM) (unhide HD)) (unhide HFULL))
          clear hlt CW1 CW2
          go_wp2
          exact bodyPost_ret (v := .tuple #[.slice a L.length cap, .int .i64 4]) (by simp [results, Try.results19, go_sem]) rfl ⟨_, by rw [(unhide HE).1], by rw [(unhide HE).2]; exact unhide HC3, below_trans' BW BB3⟩
        | true =>
          have hlt2 : decide (n < 0) = false := hlt
          have hlt3 : ¬ n < 0 := of_decide_eq_false hlt2
          have HE := unhide FIN w3 BB3 (.inl (H.has_yes (unhide HD)))
          clear hlt
          go_wp2
          go_region_held3 (fun w' => w'.cell? ⟨w.heap.size, 0, none⟩ = some (.string c.id) ∧ w'.cell? ⟨w.heap.size, 1, none⟩ = some (.int .i64 c.key) ∧ w'.cell? ⟨w.heap.size, 2, none⟩ = some (.slice wa c.w.length wc) ∧ Below w3.heap.size w3 w')
            (first
              | with_reducible assumption
              | (go_split_ands; exact ⟨x0, x1, x2, (Below.refl _ _).drew⟩)
              | (go_split_ands; exact ⟨cell_keep (by assumption) B4, cell_keep (by assumption) B4, cell_keep (by assumption) B4, below_trans' (by assumption) B4⟩)
              | (go_split_ands; exact ⟨cell_keep (by assumption) B5, cell_keep (by assumption) B5, cell_keep (by assumption) B5, below_trans' (by assumption) B5⟩))
            (first
              | (go_at_call 38; go_split_ands; refine (CW1 _ ((unhide HE).1.below (by assumption))).mono ?_; rintro e w4 ⟨v4, rfl, F4, B4⟩)
              | (go_at_call 37; go_split_ands; refine (CW2 _ _ F4 (HG0.below (below_trans' BB3 (by assumption)))).mono ?_; rintro e w5 ⟨v5, rfl, F5, B5⟩))
          have BD : Below w3.heap.size w3 w5 := below_trans' (below_trans' ((Below.refl _ _).drew) B4) B5
          have HEND : Hid (Cs w5 v5 (H.putA L c) ∧ Below w.heap.size w w5) := by
            refine ⟨?_, below_trans' BW (below_trans' BB3 BD)⟩
            rw [(unhide HE).2.2]
            exact F5
          clear F4 F5 B4 B5 BD
          go_wp2
          exact bodyPost_ret (v := .tuple #[v5, .int .i64 0]) (by simp [results, Try.results19, go_sem]) rfl ⟨_, by rw [(unhide HE).2.1], (unhide HEND).1, (unhide HEND).2⟩
      · have q1 : ((L.length : Int) == 1100) = false := beq_eq_false_iff_ne.2 (by omega)
        have HE := unhide FIN w2 BB2 (.inr (by omega))
        clear hfull
        go_wp2
        go_region_held3 (fun w' => w'.cell? ⟨w.heap.size, 0, none⟩ = some (.string c.id) ∧ w'.cell? ⟨w.heap.size, 1, none⟩ = some (.int .i64 c.key) ∧ w'.cell? ⟨w.heap.size, 2, none⟩ = some (.slice wa c.w.length wc) ∧ Below w2.heap.size w2 w')
          (first
            | with_reducible assumption
            | (go_split_ands; exact ⟨x0, x1, x2, (Below.refl _ _).drew⟩)
            | (go_split_ands; exact ⟨cell_keep (by assumption) B4, cell_keep (by assumption) B4, cell_keep (by assumption) B4, below_trans' (by assumption) B4⟩)
            | (go_split_ands; exact ⟨cell_keep (by assumption) B5, cell_keep (by assumption) B5, cell_keep (by assumption) B5, below_trans' (by assumption) B5⟩))
          (first
            | (go_at_call 38; go_split_ands; refine (CW1 _ ((unhide HE).1.below (by assumption))).mono ?_; rintro e w4 ⟨v4, rfl, F4, B4⟩)
            | (go_at_call 37; go_split_ands; refine (CW2 _ _ F4 (HG0.below (below_trans' BB2 (by assumption)))).mono ?_; rintro e w5 ⟨v5, rfl, F5, B5⟩))
        have BD : Below w2.heap.size w2 w5 := below_trans' (below_trans' ((Below.refl _ _).drew) B4) B5
        have HEND : Hid (Cs w5 v5 (H.putA L c) ∧ Below w.heap.size w w5) := by
          refine ⟨?_, below_trans' BW (below_trans' BB2 BD)⟩
          rw [(unhide HE).2.2]
          exact F5
        clear F4 F5 B4 B5 BD
        go_wp2
        exact bodyPost_ret (v := .tuple #[v5, .int .i64 0]) (by simp [results, Try.results19, go_sem]) rfl ⟨_, by rw [(unhide HE).2.1], (unhide HEND).1, (unhide HEND).2⟩

set_option maxHeartbeats 4000000 in
theorem rdel13_any (v : Value) (L : List Cd) (id : ByteArray) (w : World) (h : Cs w v L) :
    Calls Try.prog 21 #[v, .string id] w fun e w' => DelEnd13 w L id e w' := by
  have CFI := rfind13_any v L id w h
  have H0 := h
  obtain ⟨a, cap, rfl, h1, h2, hna, -⟩ := h.open
  obtain ⟨n, hn⟩ : ∃ n, H.find L id = n := ⟨_, rfl⟩
  have hlt := H.find_lt (L := L) (id := id)
  rw [hn] at CFI hlt
  obtain ⟨d, hd⟩ : ∃ d, H.delB L id = d := ⟨_, rfl⟩
  rw [hd] at hlt
  have HD := hide hd
  clear hn hd h
  go_enter Try.func21, Try.ntmps21
  go_wp2_with fail
  refine CFI.mono ?_
  rintro e w1 ⟨rfl, B1⟩
  have HC1 := hide (H0.below B1)
  clear CFI
  cases d with
  | false =>
    have hlt2 : decide (n < 0) = true := hlt
    have hlt3 : n < 0 := of_decide_eq_true hlt2
    have HE : Hid (H.delA L id = L) := if_neg (by rw [unhide HD]; decide)
    clear hlt
    go_wp2
    exact bodyPost_ret (v := .tuple #[.slice a L.length cap, .bool false]) (by simp [results, Try.results21, go_sem]) rfl ⟨_, by rw [unhide HD], by rw [unhide HE]; exact unhide HC1, B1⟩
  | true =>
    have hlt2 : decide (n < 0) = false := hlt
    have hlt3 : ¬ n < 0 := of_decide_eq_false hlt2
    have hm : H.may L = true := by have := unhide HD; rw [H.delB, Bool.and_eq_true] at this; exact this.1
    have CW := rwithout_any _ L id w1 (unhide HC1) (by have := (H.may_iff.1 hm).1; omega)
    have HE : Hid (H.delA L id = H.del L id) := if_pos (unhide HD)
    clear hlt hm
    go_wp2_with fail
    refine CW.mono ?_
    rintro e w2 ⟨v2, rfl, C2, B2⟩
    have HEND : Hid (Cs w2 v2 (H.delA L id) ∧ Below w.heap.size w w2) := ⟨by rw [unhide HE]; exact C2, below_trans' B1 B2⟩
    clear CW C2 B2
    go_wp2
    exact bodyPost_ret (v := .tuple #[v2, .bool true]) (by simp [results, Try.results21, go_sem]) rfl ⟨_, by rw [unhide HD], (unhide HEND).1, (unhide HEND).2⟩

set_option maxHeartbeats 4000000 in
theorem rbyKey13_any (v : Value) (L : List Cd) (w : World) (h : Cs w v L) :
    Calls Try.prog 23 #[v] w fun e w' => ∃ v', e = .returned v' ∧ Cs w' v' (H.keyed L) ∧ Below w.heap.size w w' := by
  have CM := rmay13_any v L w h
  have H0 := h
  obtain ⟨a, cap, rfl, h1, h2, hna, -⟩ := h.open
  obtain ⟨m, hm⟩ : ∃ m, H.may L = m := ⟨_, rfl⟩
  rw [hm] at CM
  have HM := hide hm
  clear h hm
  go_enter Try.func23, Try.ntmps23
  go_wp2_with fail
  refine CM.mono ?_
  rintro e w1 ⟨rfl, B1⟩
  clear CM
  cases m with
  | false =>
    have HE : Hid (H.keyed L = []) := if_neg (by rw [unhide HM]; decide)
    go_wp2
    go_ret
    exact ⟨_, rfl, by rw [unhide HE]; exact Cs.nil _, B1⟩
  | true =>
    obtain ⟨hlm, hmf, hup⟩ := H.may_iff.1 (unhide HM)
    have HE : Hid (H.keyed L = S.srt L) := if_pos (unhide HM)
    have CI := in_any _ L w1 (H0.below B1) (by omega) (fun x hx => by have := fits_id (hmf x hx); omega)
    clear hmf hup
    go_wp2_with fail
    refine CI.mono ?_
    rintro e w2 ⟨v2, rfl, C2, B2⟩
    have HEND : Hid (Cs w2 v2 (H.keyed L) ∧ Below w.heap.size w w2) := ⟨by rw [unhide HE]; exact C2, below_trans' B1 B2⟩
    clear CI C2 B2
    go_wp2
    go_ret
    exact ⟨_, rfl, (unhide HEND).1, (unhide HEND).2⟩
end Go.Proofs.Ytefnkbgkcjhkoaa
