/-
  The contract of look, at a segment that may be: which of its words stands where.
-/
import Derived.Test.YtonhehhmnobciaaHeads8
import Derived.Test.YtonhehhmnobciaaMay7
namespace Go.Proofs.Ytonhehhmnobciaa
set_option maxRecDepth 100000
open Go.RowKit Go.WideMaps Go.Maps

theorem run_makeMapN (n : Int) (w : World) : (Instr.makeMap 76 (some (.int .i64 n))).run Try.prog w = .ok (.map (some w.heap.size)) (w.alloc (.map #[] 0)) := by kernel_rfl

theorem Valid.words {s : Sg} {l : List Cd} {so : Bool} (h : Valid s l so) : s.ts.map (·.t) = S.words l := by
  obtain ⟨rfl, -⟩ := h
  simp [S.seg, S.term, Function.comp_def]
theorem Valid.spots {s : Sg} {l : List Cd} {so : Bool} (h : Valid s l so) : S.spots 0 s.ts = S.laid l := by
  obtain ⟨rfl, -⟩ := h
  rfl
theorem Valid.term {s : Sg} {l : List Cd} {so : Bool} (h : Valid s l so) {k : Nat} {t : Tm} (ht : s.ts[k]? = some t) : t = S.term l t.t ∧ (S.words l)[k]? = some t.t := by
  obtain ⟨rfl, -⟩ := h
  change ((S.words l).map (S.term l))[k]? = some t at ht
  rw [List.getElem?_map] at ht
  obtain ⟨x, hx, rfl⟩ := Option.map_eq_some_iff.1 ht
  exact ⟨rfl, hx⟩

/-- What lay asks of a word of a segment that may be. -/
theorem Valid.lay {s : Sg} {l : List Cd} {so : Bool} (h : Valid s l so) {k : Nat} {t : Tm} (ht : s.ts[k]? = some t) : 0 < t.p.length ∧ Q.may t.p = true ∧ ((S.spots 0 (s.ts.take k) ++ t.p.flatMap (S.sp k)).map (·.1)).Nodup ∧
    (∀ p ∈ t.p, ∀ y ∈ p.a, ∃ d : Nat, p.d = d ∧ d < 64 ∧ 0 ≤ y ∧ y < 120 ∧ ∃ z, s.lens[d]? = some z ∧ y < z) ∧ (S.spots 0 (s.ts.take k) ++ t.p.flatMap (S.sp k)).length ≤ 100000 := by
  obtain ⟨e1, e2⟩ := h.term ht
  have hl := h.2.len
  have hw : ∀ c ∈ l, c.w.length ≤ 120 := fun c hc => (S.fits_w (h.2.fit c hc)).1
  have hsub : ∃ rest, S.laid l = S.spots 0 (s.ts.take k) ++ t.p.flatMap (S.sp k) ++ rest := by
    rw [← S.spots_snoc ht, ← h.spots]
    refine ⟨S.spots (0 + (s.ts.take (k + 1)).length) (s.ts.drop (k + 1)), ?_⟩
    rw [← S.spots_app, List.take_append_drop]
  obtain ⟨rest, hrest⟩ := hsub
  have hp : t.p = (S.posts l t.t).map S.pt := by rw [e1]; rfl
  refine ⟨?_, ?_, ?_, ?_, ?_⟩
  · have := S.posts_some (List.mem_of_getElem? e2)
    rw [hp, List.length_map]
    exact List.length_pos_iff.2 this
  · rw [hp]
    exact S.posts_may hl hw _
  · have := S.laid_keys l
    rw [hrest, List.map_append, List.nodup_append] at this
    exact this.1
  · intro p hpm y hy
    rw [hp] at hpm
    obtain ⟨q, hq, rfl⟩ := List.mem_map.1 hpm
    obtain ⟨d, c, hc, rfl, -⟩ := S.mem_posts.1 hq
    obtain ⟨j, rfl, hj⟩ := S.mem_places.1 hy
    have hd := (List.getElem?_eq_some_iff.1 hc).1
    have hjl := (List.getElem?_eq_some_iff.1 hj).1
    have := hw c (List.mem_of_getElem? hc)
    exact ⟨d, rfl, by omega, by omega, by omega, _, (h.at hc).2.2, by omega⟩
  · have h1 := S.laid_len l
    have h2 := S.total_le hw
    rw [hrest] at h1
    simp only [List.length_append] at h1 ⊢
    omega

theorem sum_step {l : List Int} {k : Nat} {x : Int} (h : l[k]? = some x) : (l.take (k + 1)).sum = (l.take k).sum + x := by
  rw [take_snoc8 h, List.sum_append]
  simp
theorem sum_total (l : List Cd) : (l.map (fun c => (c.w.length : Int))).sum = (S.total l : Int) := by
  unfold S.total
  induction l with
  | nil => rfl
  | cons c l ih => simp only [List.map_cons, List.sum_cons, ih]; omega

set_option maxRecDepth 100000 in
set_option maxHeartbeats 4000000 in
theorem look_any (ia ka lna ta : Option Addr) (ic kc lnc tc : Nat) (s : Sg) (so : Bool) (l : List Cd) (w : World) (h : Sv w (.slice ia s.ids.length ic) (.slice ka s.keys.length kc) (.slice lna s.lens.length lnc) (.slice ta s.ts.length tc) s) (hV : Valid s l so) :
    Calls Try.prog 47 #[.agg #[.slice ia s.ids.length ic, .slice ka s.keys.length kc, .slice lna s.lens.length lnc, .slice ta s.ts.length tc, .bool so]] w fun e w' => ∃ b M, e = .returned (.tuple #[.map (some b), .bool true]) ∧ Map8 w' b (S.laid l).length M ∧ Tel M (S.laid l) ∧ Below w.heap.size w w' := by
  obtain ⟨n1, n2, n3, n4⟩ := hV.lens
  have h64 := hV.2.len
  have h200 := hV.2.few
  have hW120 : ∀ c ∈ l, c.w.length ≤ 120 := fun c hc => (S.fits_w (hV.2.fit c hc)).1
  have hmm := fun n w => run_makeMapN n w
  obtain ⟨W, hW⟩ : ∃ W, W = w.alloc (.cells #[.slice ia s.ids.length ic, .slice ka s.keys.length kc, .slice lna s.lens.length lnc, .slice ta s.ts.length tc, .bool so] 31) := ⟨_, rfl⟩
  have BW : Below w.heap.size w W := by rw [hW]; exact below_alloc _ _
  have X0 : W.heap[w.heap.size]? = some (.cells #[.slice ia s.ids.length ic, .slice ka s.keys.length kc, .slice lna s.lens.length lnc, .slice ta s.ts.length tc, .bool so] 31 (0, 0)) := by rw [hW]; exact heap_alloc_new w _
  have HV := h.below BW
  have HW := hide hW
  clear hW
  have CH := mayHeads_any ia ka lna ta ic kc lnc tc s so l W HV hV
  have HVA := hide hV
  have HMAY := hide hV.2.may
  have hwd := hide hV.words
  have hsum : s.lens.sum = (S.total l : Int) := by rw [hV.1]; exact sum_total l
  have HSUM := hide hsum
  have htot := S.total_le hW120
  have hln : s.lens.length ≤ 64 := by omega
  have htn : s.ts.length ≤ 200 := by omega
  clear hV h hsum n1 n2 n3 n4
  go_enter Try.func47, Try.ntmps47
  go_wp2_with fail
  rw [← unhide HW]
  refine CH.mono ?_
  rintro e w1 ⟨rfl, B1⟩
  have X1 := box_below X0 B1
  have BB := below_trans' BW B1
  have HV1 := HV.below B1
  have x0 := box_cell X1 (j := 0) rfl
  have x1 := box_cell X1 (j := 1) rfl
  have x2 := box_cell X1 (j := 2) rfl
  have x3 := box_cell X1 (j := 3) rfl
  have x4 := box_cell X1 (j := 4) rfl
  clear B1 X0 CH HV
  go_wp2_with fail
  refine (wordsOf_any ia ka lna ta ic kc lnc tc s so _ HV1 (by omega)).mono ?_
  rintro e w2 ⟨v2, rfl, G2, B2⟩
  rw [unhide hwd] at G2
  have X2 := box_below X1 B2
  have BB2 := below_trans' BB B2
  have HV2 := HV1.below B2
  clear B2 X1 HV1 BB x0 x1 x2 x3 x4
  have x2 := box_cell X2 (j := 2) rfl
  have x3 := box_cell X2 (j := 3) rfl
  go_wp2_with (go_at_call 67; refine (may_any _ _ _ G2 _ (unhide HMAY)).mono ?_; rintro e w3 ⟨rfl, rfl⟩)
  obtain ⟨a', c', hv', -, -, -, hoL⟩ := HV2.2.2.1.open
  simp only [Value.slice.injEq, true_and] at hv'
  obtain ⟨rfl, rfl⟩ := hv'
  go_loop [4, 22] (fun mv iv => ∃ (k : Nat) (m : Int), k ≤ s.lens.length ∧ iv = .int .i64 k ∧ mv = .int .i64 m ∧ Hid (m = (s.lens.take k).sum) ∧ 0 ≤ m ∧ m ≤ (k : Int) * 120) (fun _ iv => s.lens.length - (intOf iv).toNat)
  case atStart => exact ⟨0, 0, Nat.zero_le _, rfl, rfl, rfl, by omega, by omega⟩
  case round =>
    obtain ⟨k, m, hk, rfl, rfl, HM, hm0, hm1⟩ := hrel
    by_cases hlt : k < s.lens.length
    · obtain ⟨b, off, rfl, hb, hc⟩ := hoL (by omega)
      obtain ⟨c, hx⟩ : ∃ c, l[k]? = some c := ⟨l[k]'(by have := (unhide HVA).lens; omega), List.getElem?_eq_getElem _⟩
      obtain ⟨-, -, a3⟩ := (unhide HVA).at hx
      have e1 := hc k hlt
      rw [show s.lens.getD k 0 = (c.w.length : Int) by simp [List.getD, a3]] at e1
      have hcl := hW120 c (List.mem_of_getElem? hx)
      have HST := hide (sum_step a3)
      clear hc hx a3
      go_wp2
      go_round
      case rel => exact ⟨k + 1, m + (c.w.length : Int), by omega, by go_num, by go_num, by (show _ = _; rw [unhide HST, unhide HM]), by omega, by omega⟩
      case measure => simp [intOf]; omega
    · have hm : m = (S.total l : Int) := by rw [unhide HM, List.take_of_length_le (by omega)]; exact unhide HSUM
      have HMT := hide hm
      have mk := hmm m
      have HTM := HV2.2.2.2
      have HLN := HV2.2.2.1
      have hZ3 : w.heap.size < w3.heap.size := (Array.getElem?_eq_some_iff.1 X2).1
      have m0 : Map8 (w3.alloc (.map #[] 0)) w3.heap.size 0 (.map []) := World.ownsMap_made _ _ _ _
      have b0 : Below w3.heap.size w3 (w3.alloc (.map #[] 0)) := below_alloc _ _
      clear hm HM hmm
      go_wp2
      go_loopw [35] (fun iv wr => ∃ (j : Nat) (M : DataW Unit) (dj : List S.Spot), j ≤ s.ts.length ∧ iv = .int .i64 j ∧ Hid (dj = S.spots 0 (s.ts.take j)) ∧ Map8 wr w3.heap.size dj.length M ∧ Hid (Tel M dj) ∧ Below w3.heap.size w3 wr) (fun iv _ => s.ts.length - (intOf iv).toNat)
      case atStart => exact ⟨0, _, [], Nat.zero_le _, rfl, rfl, m0, Tel.start, b0⟩
      case round =>
        clear m0 b0
        obtain ⟨j, M, dj, hj, rfl, HDJ, hown, HT, hbel⟩ := hrel
        have HTR := HTM.below hbel
        have HLR := HLN.below hbel
        have XR := (hbel.block _ hZ3).trans X2
        have hw3r := hbel.size
        by_cases hlt2 : j < s.ts.length
        · obtain ⟨a', c', hv', -, -, -, hoT⟩ := HTR.open
          simp only [Value.slice.injEq, true_and] at hv'
          obtain ⟨rfl, rfl⟩ := hv'
          obtain ⟨b, off, rfl, hb, hc⟩ := hoT (by omega)
          obtain ⟨t, hx⟩ : ∃ t, s.ts[j]? = some t := ⟨s.ts[j], List.getElem?_eq_getElem hlt2⟩
          obtain ⟨pa, pc, c0, c1, P2⟩ := hc j t hx
          obtain ⟨l1, l2, l3, l4, l5⟩ := (unhide HVA).lay hx
          rw [← unhide HDJ] at l3 l5
          have BT := below_alloc wr (.cells #[.string t.t, .slice pa t.p.length pc] 66)
          have CL := lay_any w3.heap.size _ s.lens j _ t.p _ M dj (hown.alloc (.cells #[.string t.t, .slice pa t.p.length pc] 66)) (unhide HT) (HLR.below BT) (P2.below BT) l1 l2 l3 l4 l5 (by omega)
          have HSN := hide (S.spots_snoc hx)
          have x2 := box_cell XR (j := 2) rfl
          have hzr : w.heap.size < wr.heap.size := by omega
          have hbel1 := hbel.alloc hbel.size (.cells #[.string t.t, .slice pa t.p.length pc] 66)
          clear hc hx P2 l1 l2 l3 l4 l5 HTR HLR XR HT
          go_wp2_with (go_at_call 83; refine CL.mono ?_; rintro e w4 ⟨rfl, M4, O4, T4, g4⟩)
          have B4 := hbel1.grown g4 (by simp; omega) (fun i hi => by cases hi; exact Nat.le_refl _)
          have HT4 := hide T4
          clear g4 T4 CL hown hbel hbel1
          go_roundw
          case rel => exact ⟨j + 1, M4, dj ++ t.p.flatMap (S.sp j), by omega, by go_num, by (show _ = _; rw [unhide HSN, unhide HDJ]), O4, unhide HT4, B4⟩
          case measure => simp [intOf]; omega
        · have e : dj = S.laid l := by rw [unhide HDJ, List.take_of_length_le (by omega)]; exact (unhide HVA).spots
          subst e
          have hsz : ((Maps.size M : Nat) : Int) = m := by rw [(unhide HT).2.2.2, S.laid_len, unhide HMT]
          have hq : (((Maps.size M : Nat) : Int) == m) = true := by simp [hsz]
          have HSZ := hide hsz
          clear hsz HTR HLR XR
          go_wp2_with (at_len; refine wpList_len_own _ rfl _ 76 rfl 107 3 Try.underlying76 _ w3.heap.size (S.laid l).length M rfl hown ?_)
          go_ret2
          exact ⟨_, M, rfl, hown, unhide HT, below_trans' BB2 hbel⟩
end Go.Proofs.Ytonhehhmnobciaa
