/-
  The contracts of May, Cards, Card, Words and Find, at a segment that may be.
-/
import Derived.Test.YtonhehhmnobciaaRead8
namespace Go.Proofs.Ytonhehhmnobciaa
set_option maxRecDepth 100000
open Go.RowKit Go.WideMaps Go.Maps

set_option maxRecDepth 100000 in
set_option maxHeartbeats 4000000 in
theorem segMay_any (ia ka lna ta : Option Addr) (ic kc lnc tc : Nat) (s : Sg) (so : Bool) (l : List Cd) (w : World) (h : Sv w (.slice ia s.ids.length ic) (.slice ka s.keys.length kc) (.slice lna s.lens.length lnc) (.slice ta s.ts.length tc) s) (hV : Valid s l so) :
    Calls Try.prog 17 #[.agg #[.slice ia s.ids.length ic, .slice ka s.keys.length kc, .slice lna s.lens.length lnc, .slice ta s.ts.length tc, .bool so]] w fun e w' => e = .returned (.bool true) ∧ Below w.heap.size w w' := by
  obtain ⟨W, hW⟩ : ∃ W, W = w.alloc (.cells #[.slice ia s.ids.length ic, .slice ka s.keys.length kc, .slice lna s.lens.length lnc, .slice ta s.ts.length tc, .bool so] 31) := ⟨_, rfl⟩
  have BW : Below w.heap.size w W := by rw [hW]; exact below_alloc _ _
  have X0 : W.heap[w.heap.size]? = some (.cells #[.slice ia s.ids.length ic, .slice ka s.keys.length kc, .slice lna s.lens.length lnc, .slice ta s.ts.length tc, .bool so] 31 (0, 0)) := by rw [hW]; exact heap_alloc_new w _
  have HV := h.below BW
  have HW := hide hW
  clear hW
  have C := look_any ia ka lna ta ic kc lnc tc s so l W HV hV
  clear hV h HV X0
  go_enter Try.func17, Try.ntmps17
  go_wp2_with fail
  rw [← unhide HW]
  refine C.mono ?_
  rintro e w1 ⟨b, M, rfl, -, -, B1⟩
  have BB := below_trans' BW B1
  go_wp2
  go_ret
  exact ⟨rfl, BB⟩

/-- A row of cards of the call's own, the words of each in a row of its own. -/
def CW (B : Nat) (w : World) (ps : List (Cd × Pts)) : Prop := ∀ p ∈ ps, w.ownsRow B 9 1 (sv p.2) p.1.w.length (p.1.w.map Value.string)

set_option maxRecDepth 100000 in
set_option maxHeartbeats 4000000 in
theorem cards_any (ia ka lna ta : Option Addr) (ic kc lnc tc : Nat) (s : Sg) (so : Bool) (l : List Cd) (w : World) (h : Sv w (.slice ia s.ids.length ic) (.slice ka s.keys.length kc) (.slice lna s.lens.length lnc) (.slice ta s.ts.length tc) s) (hV : Valid s l so) :
    Calls Try.prog 26 #[.agg #[.slice ia s.ids.length ic, .slice ka s.keys.length kc, .slice lna s.lens.length lnc, .slice ta s.ts.length tc, .bool so]] w fun e w' => ∃ v', e = .returned v' ∧ Cs w' v' l ∧ Below w.heap.size w w' := by
  obtain ⟨i0, hi, hz0, hz1, hz2⟩ := info_parts Try.infoC
  obtain ⟨W, hW⟩ : ∃ W, W = w.alloc (.cells #[.slice ia s.ids.length ic, .slice ka s.keys.length kc, .slice lna s.lens.length lnc, .slice ta s.ts.length tc, .bool so] 31) := ⟨_, rfl⟩
  have BW : Below w.heap.size w W := by rw [hW]; exact below_alloc _ _
  have X0 : W.heap[w.heap.size]? = some (.cells #[.slice ia s.ids.length ic, .slice ka s.keys.length kc, .slice lna s.lens.length lnc, .slice ta s.ts.length tc, .bool so] 31 (0, 0)) := by rw [hW]; exact heap_alloc_new w _
  have HV := h.below BW
  have HW := hide hW
  clear hW
  have C := look_any ia ka lna ta ic kc lnc tc s so l W HV hV
  have HVA := hide hV
  have N1 := hide hV.lens.1
  have h64 := hV.2.len
  have hn64 : s.ids.length ≤ 64 := by have := unhide N1; omega
  clear hV h
  go_enter Try.func26, Try.ntmps26
  go_wp2_with fail
  rw [← unhide HW]
  refine C.mono ?_
  rintro e w1 ⟨b, M, rfl, M1, T1, B1⟩
  have BB := below_trans' BW B1
  have X1 := box_below X0 B1
  have HV1 := HV.below B1
  have HT1 := hide T1
  have hz1' : w.heap.size < w1.heap.size := (Array.getElem?_eq_some_iff.1 X1).1
  have x0 := box_cell X1 (j := 0) rfl
  have x1 := box_cell X1 (j := 1) rfl
  have x2 := box_cell X1 (j := 2) rfl
  have x3 := box_cell X1 (j := 3) rfl
  have x4 := box_cell X1 (j := 4) rfl
  clear C HV X0 B1 T1
  go_wp2
  go_loopw [5, 17] (fun ov iv wr => ∃ (k : Nat) (ps : List (Cd × Pts)), k ≤ s.ids.length ∧ iv = .int .i64 k ∧ Hid (ps.map (·.1) = l.take k) ∧ ps.length ≤ k ∧ wr.ownsRow w1.heap.size 25 3 ov ps.length (ps.flatMap encC) ∧ CW w1.heap.size wr ps ∧ Below w1.heap.size w1 wr) (fun _ iv _ => s.ids.length - (intOf iv).toNat)
  case atStart => exact ⟨0, [], Nat.zero_le _, rfl, rfl, Nat.zero_le _, World.ownsRow_nil _ _ _ _, (fun p hp => by cases hp), Below.refl _ _⟩
  case round =>
    clear x0 x1 x2 x3 x4
    obtain ⟨k, ps, hk, rfl, HP, hpl, hown, hcw, hbel⟩ := hrel
    by_cases hlt : k < s.ids.length
    · obtain ⟨c, hx⟩ : ∃ c, l[k]? = some c := ⟨l[k]'(by have := unhide N1; omega), List.getElem?_eq_getElem _⟩
      have XR := box_below X1 hbel
      have CR := sread_any ia ka lna ta ic kc lnc tc s so l b _ M k c wr (HV1.below hbel) (unhide HVA) (map_keep M1 (hbel.block _ M1.lt)) (unhide HT1) hx
      have HTS := hide (take_snoc8 hx)
      have hbs := hbel.size
      have x0 := box_cell XR (j := 0) rfl
      have x1 := box_cell XR (j := 1) rfl
      have x2 := box_cell XR (j := 2) rfl
      have x3 := box_cell XR (j := 3) rfl
      have x4 := box_cell XR (j := 4) rfl
      clear XR hx
      go_wp2_with fail
      refine CR.mono ?_
      rintro e w2 ⟨vw, rfl, O2, B2⟩
      obtain ⟨va, vc, hvw, -⟩ := id (Gl.owned O2)
      subst hvw
      have OC := own_below hown B2
      have CW2 : CW w1.heap.size w2 ps := fun p hp => own_below (hcw p hp) B2
      have BB2 := hbel.trans (B2.mono hbs)
      have hbs2 := B2.size
      clear CR hown hcw hbel B2 x0 x1 x2 x3 x4
      go_wp2_with (at_builtin; refine append_oneF rfl _ _ 22 rfl Try.underlying22 hi hz0 hz1 hz2 rfl (by decide) encC_len encC_one (pre := ps) (c, (va, c.w.length, vc)) rfl rfl rfl (by simp) OC (by omega) (by omega) (by decide) ?_; intro g5 q5 w5 O5 g5' l5)
      have B5 := BB2.grown g5' (by omega) (fun j hj => (OC.lt j hj).1)
      have CW5 : CW w1.heap.size w5 (ps ++ [(c, (va, c.w.length, vc))]) := fun p hp => by
        rcases List.mem_append.1 hp with hp | hp
        · exact World.ownsRow.kept (CW2 p hp) g5' (own_apart (CW2 p hp) OC (by decide))
        · simp only [List.mem_singleton] at hp
          subst hp
          exact World.ownsRow.kept (own_mono O2 hbs) g5' (own_apart (own_mono O2 hbs) OC (by decide))
      have HCW := hide CW5
      clear g5' l5 OC CW2 CW5 O2
      go_roundw
      case rel => exact ⟨k + 1, ps ++ [(c, (va, c.w.length, vc))], by omega, by go_num, by (show _ = _; rw [unhide HTS, List.map_append, unhide HP]; rfl), by simp; omega, O5, unhide HCW, B5⟩
      case measure => simp [intOf]; omega
    · have hps : ps.map (·.1) = l := by rw [unhide HP, List.take_of_length_le (by have := unhide N1; omega)]
      have HC := Cs.own hown (fun p hp => Gl.owned (hcw p hp))
      rw [hps] at HC
      clear HP
      go_wp2
      go_ret
      exact ⟨_, rfl, HC, below_trans' BB hbel⟩

set_option maxRecDepth 100000 in
set_option maxHeartbeats 4000000 in
theorem card8_any (ia ka lna ta : Option Addr) (ic kc lnc tc : Nat) (s : Sg) (so : Bool) (l : List Cd) (d : Nat) (c : Cd) (w : World) (h : Sv w (.slice ia s.ids.length ic) (.slice ka s.keys.length kc) (.slice lna s.lens.length lnc) (.slice ta s.ts.length tc) s) (hV : Valid s l so) (hc : l[d]? = some c) :
    Calls Try.prog 59 #[.agg #[.slice ia s.ids.length ic, .slice ka s.keys.length kc, .slice lna s.lens.length lnc, .slice ta s.ts.length tc, .bool so], .int .i64 (d : Int)] w fun e w' => ∃ vw, e = .returned (.tuple #[.agg #[.string c.id, .int .i64 c.key, vw], .bool true]) ∧ w'.ownsRow w.heap.size 9 1 vw c.w.length (c.w.map Value.string) ∧ Below w.heap.size w w' := by
  obtain ⟨W, hW⟩ : ∃ W, W = (w.alloc (.cells #[.slice ia s.ids.length ic, .slice ka s.keys.length kc, .slice lna s.lens.length lnc, .slice ta s.ts.length tc, .bool so] 31)).alloc (.cells #[.string ⟨#[]⟩, .int .i64 0, .slice none 0 0] 25) := ⟨_, rfl⟩
  have BW : Below w.heap.size w W := by rw [hW]; exact below_all (below_alloc _ _) _
  have X0 : W.heap[w.heap.size]? = some (.cells #[.slice ia s.ids.length ic, .slice ka s.keys.length kc, .slice lna s.lens.length lnc, .slice ta s.ts.length tc, .bool so] 31 (0, 0)) := by rw [hW, Below.heap_alloc _ _ _ (by simp)]; exact heap_alloc_new w _
  have R0 : W.heap[w.heap.size + 1]? = some (.cells #[.string ⟨#[]⟩, .int .i64 0, .slice none 0 0] 25 (0, 0)) := by
    rw [hW]
    have := heap_alloc_new (w.alloc (.cells #[.slice ia s.ids.length ic, .slice ka s.keys.length kc, .slice lna s.lens.length lnc, .slice ta s.ts.length tc, .bool so] 31)) (.cells #[.string ⟨#[]⟩, .int .i64 0, .slice none 0 0] 25)
    simpa using this
  have HV := h.below BW
  have C := look_any ia ka lna ta ic kc lnc tc s so l W HV hV
  have hd := (List.getElem?_eq_some_iff.1 hc).1
  have p1 : ¬ (d : Int) < 0 := by omega
  have p2 : ¬ (s.ids.length : Int) ≤ (d : Int) := by have := hV.lens.1; omega
  have HW := hide hW
  have HVA := hide hV
  have HC := hide hc
  clear hW hV h hc
  go_enter Try.func59, Try.ntmps59
  go_wp2_with fail
  rw [← unhide HW]
  refine C.mono ?_
  rintro e w1 ⟨b, M, rfl, M1, T1, B1⟩
  have BB := below_trans' BW B1
  have X1 := box_below X0 B1
  have R1 := box_below R0 B1
  have HV1 := HV.below B1
  have CR := sread_any ia ka lna ta ic kc lnc tc s so l b _ M d c w1 HV1 (unhide HVA) M1 T1 (unhide HC)
  have hz1 : w.heap.size + 1 < w1.heap.size := (Array.getElem?_eq_some_iff.1 R1).1
  have x0 := box_cell X1 (j := 0) rfl
  have x1 := box_cell X1 (j := 1) rfl
  have x2 := box_cell X1 (j := 2) rfl
  have x3 := box_cell X1 (j := 3) rfl
  have x4 := box_cell X1 (j := 4) rfl
  clear C HV X0 R0 B1 T1 M1 HV1 X1
  go_wp2_with (go_at_call 60; refine CR.mono ?_; rintro e w2 ⟨vw, rfl, O2, B2⟩; obtain ⟨va, vc, hvw, -⟩ := id (Gl.owned O2); subst hvw; have RR := box_below R1 B2; have r0 := box_cell RR (j := 0) rfl; have r1 := box_cell RR (j := 1) rfl; have r2 := box_cell RR (j := 2) rfl; have f0 := bfro RR 0; have f1 := bfro RR 1; have f2 := bfro RR 2)
  exact bodyPost_ret (v := .tuple #[.agg #[.string c.id, .int .i64 c.key, .slice va c.w.length vc], .bool true]) (by simp [results, Try.results59, go_sem, r0, r1, r2]) rfl ⟨_, rfl, own_mono (own_three O2 (b := w.heap.size + 1) (by omega) _ _ _) (by omega), set3_below (b := w.heap.size + 1) (below_trans' BB B2) (by omega) _ _ _⟩

set_option maxRecDepth 100000 in
set_option maxHeartbeats 4000000 in
theorem words8_any (ia ka lna ta : Option Addr) (ic kc lnc tc : Nat) (s : Sg) (so : Bool) (l : List Cd) (d : Nat) (c : Cd) (w : World) (h : Sv w (.slice ia s.ids.length ic) (.slice ka s.keys.length kc) (.slice lna s.lens.length lnc) (.slice ta s.ts.length tc) s) (hV : Valid s l so) (hc : l[d]? = some c) :
    Calls Try.prog 25 #[.agg #[.slice ia s.ids.length ic, .slice ka s.keys.length kc, .slice lna s.lens.length lnc, .slice ta s.ts.length tc, .bool so], .int .i64 (d : Int)] w fun e w' => ∃ vw, e = .returned vw ∧ Gl .string w' vw c.w ∧ Below w.heap.size w w' := by
  obtain ⟨W, hW⟩ : ∃ W, W = w.alloc (.cells #[.slice ia s.ids.length ic, .slice ka s.keys.length kc, .slice lna s.lens.length lnc, .slice ta s.ts.length tc, .bool so] 31) := ⟨_, rfl⟩
  have BW : Below w.heap.size w W := by rw [hW]; exact below_alloc _ _
  have X0 : W.heap[w.heap.size]? = some (.cells #[.slice ia s.ids.length ic, .slice ka s.keys.length kc, .slice lna s.lens.length lnc, .slice ta s.ts.length tc, .bool so] 31 (0, 0)) := by rw [hW]; exact heap_alloc_new w _
  have HV := h.below BW
  have HW := hide hW
  clear hW
  have C := card8_any ia ka lna ta ic kc lnc tc s so l d c W HV hV hc
  clear hV h hc HV X0
  go_enter Try.func25, Try.ntmps25
  go_wp2_with fail
  rw [← unhide HW]
  refine C.mono ?_
  rintro e w1 ⟨vw, rfl, O1, B1⟩
  obtain ⟨va, vc, hvw, -⟩ := id (Gl.owned O1)
  subst hvw
  have BB := below_trans' BW B1
  have G1 := (Gl.owned O1).below (below_alloc w1 (.cells #[.string c.id, .int .i64 c.key, .slice va c.w.length vc] 25))
  have BE := below_all BB (.cells #[.string c.id, .int .i64 c.key, .slice va c.w.length vc] 25)
  clear O1 B1 C
  go_wp2
  go_ret
  exact ⟨_, rfl, G1, BE⟩

set_option maxRecDepth 100000 in
set_option maxHeartbeats 4000000 in
theorem index_any (v : Value) (ids : List ByteArray) (x : ByteArray) (d : Nat) (w : World) (h : Gl .string w v ids) (hx : ids[d]? = some x) (hf : ∀ j y, j < d → ids[j]? = some y → y ≠ x) :
    Calls Try.prog 53 #[v, .string x] w fun e w' => e = .returned (.int .i64 (d : Int)) ∧ w' = w := by
  obtain ⟨a, cap, rfl, hl, hm, hna, ho⟩ := h.open
  have hd := (List.getElem?_eq_some_iff.1 hx).1
  have HF := hide hf
  have HX := hide hx
  clear h hf hx
  go_enter Try.func53, Try.ntmps53
  go_wp2
  go_loop [8] (fun iv => ∃ k : Nat, k ≤ d ∧ iv = .int .i64 k) (fun iv => ids.length - (intOf iv).toNat)
  case atStart => exact ⟨0, Nat.zero_le _, rfl⟩
  case round =>
    obtain ⟨k, hk, rfl⟩ := hrel
    have hlt : k < ids.length := by omega
    obtain ⟨b, off, rfl, hb, hc⟩ := ho (by omega)
    obtain ⟨y, hy⟩ : ∃ y, ids[k]? = some y := ⟨ids[k], List.getElem?_eq_getElem hlt⟩
    have e1 := hc k y hy
    have hq := @K.eq_to x y
    by_cases he : k = d
    · have exy : x = y := by subst he; have := unhide HX; rw [hy] at this; exact (Option.some.inj this).symm
      have hq' : (x.toList == y.toList) = true := by rw [hq]; simpa using exy
      have HE := hide he
      clear hc ho hy hq exy he
      go_wp2
      go_ret
      exact ⟨by rw [unhide HE]; rfl, rfl⟩
    · have hq' : (x.toList == y.toList) = false := by rw [hq]; simpa using (unhide HF k y (by omega) hy).symm
      have HE := hide he
      clear hc ho hy hq he
      go_wp2
      go_round
      case rel => exact ⟨k + 1, by have := unhide HE; omega, by go_num⟩
      case measure => simp [intOf]; omega

set_option maxRecDepth 100000 in
set_option maxHeartbeats 4000000 in
theorem find8_any (ia ka lna ta : Option Addr) (ic kc lnc tc : Nat) (s : Sg) (so : Bool) (l : List Cd) (d : Nat) (c : Cd) (w : World) (h : Sv w (.slice ia s.ids.length ic) (.slice ka s.keys.length kc) (.slice lna s.lens.length lnc) (.slice ta s.ts.length tc) s) (hV : Valid s l so) (hc : l[d]? = some c) :
    Calls Try.prog 23 #[.agg #[.slice ia s.ids.length ic, .slice ka s.keys.length kc, .slice lna s.lens.length lnc, .slice ta s.ts.length tc, .bool so], .string c.id] w fun e w' => e = .returned (.int .i64 (d : Int)) ∧ Below w.heap.size w w' := by
  obtain ⟨W, hW⟩ : ∃ W, W = w.alloc (.cells #[.slice ia s.ids.length ic, .slice ka s.keys.length kc, .slice lna s.lens.length lnc, .slice ta s.ts.length tc, .bool so] 31) := ⟨_, rfl⟩
  have BW : Below w.heap.size w W := by rw [hW]; exact below_alloc _ _
  have X0 : W.heap[w.heap.size]? = some (.cells #[.slice ia s.ids.length ic, .slice ka s.keys.length kc, .slice lna s.lens.length lnc, .slice ta s.ts.length tc, .bool so] 31 (0, 0)) := by rw [hW]; exact heap_alloc_new w _
  have HV := h.below BW
  have HW := hide hW
  clear hW
  have C := segMay_any ia ka lna ta ic kc lnc tc s so l W HV hV
  have hx := (hV.at hc).1
  have hf : ∀ j y, j < d → s.ids[j]? = some y → y ≠ c.id := by
    intro j y hj hy e
    rw [hV.1] at hy
    change (l.map (·.id))[j]? = some y at hy
    rw [List.getElem?_map] at hy
    obtain ⟨c', hc', rfl⟩ := Option.map_eq_some_iff.1 hy
    obtain ⟨i1, r1⟩ := List.getElem?_eq_some_iff.1 hc'
    obtain ⟨i2, r2⟩ := List.getElem?_eq_some_iff.1 hc
    have := List.pairwise_iff_getElem.1 hV.2.unl j d i1 i2 hj
    rw [r1, r2] at this
    exact this e
  clear hV h hc
  go_enter Try.func23, Try.ntmps23
  go_wp2_with fail
  rw [← unhide HW]
  refine C.mono ?_
  rintro e w1 ⟨rfl, B1⟩
  have BB := below_trans' BW B1
  have x0 := box_cell (box_below X0 B1) (j := 0) rfl
  have CI := index_any _ s.ids c.id d w1 (HV.below B1).1 hx hf
  clear C HV X0 B1 hx hf
  go_wp2_with (go_at_call 53; refine CI.mono ?_; rintro e w2 ⟨rfl, rfl⟩)
  go_ret
  exact ⟨rfl, BB⟩
end Go.Proofs.Ytonhehhmnobciaa
