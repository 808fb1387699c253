/-
  The contract of read: the card of a document of a segment that may be.
-/
import Derived.Test.YtonhehhmnobciaaLook8
import Derived.Deep.RegionLaw
namespace Go.Proofs.Ytonhehhmnobciaa
set_option maxRecDepth 100000
open Go.RowKit Go.WideMaps Go.Maps

/-- A card that is being read: its box, and the row of its words. -/
def Rx (cb : Nat) (w : World) (c : Cd) (vw : Value) (pre : List ByteArray) : Prop :=
  w.heap[cb]? = some (.cells #[.string c.id, .int .i64 c.key, vw] 25 (0, 0)) ∧ w.ownsRow (cb + 1) 9 1 vw pre.length (pre.map Value.string)

theorem Rx.step {cb g n q : Nat} {wr w1 : World} {c : Cd} {vw : Value} {pre : List ByteArray} {x : ByteArray} (h : Rx cb wr c vw pre) (ho : w1.ownsRow (cb + 1) 9 1 (.slice (some ⟨g, 0, none⟩) n q) (pre ++ [x]).length ((pre ++ [x]).map Value.string)) (hg : wr.grownBy w1 vw.ownBlock) :
    Rx cb (w1.setCell ⟨cb, 2, none⟩ (.slice (some ⟨g, 0, none⟩) n q)) c (.slice (some ⟨g, 0, none⟩) n q) (pre ++ [x]) := by
  exact ⟨bset (box_grown h.1 hg (row_ne h.2)) 2 _, row_set ho 2 _⟩

theorem own_three {w : World} {B b : Nat} {e : TypeId} {k n : Nat} {v : Value} {xs : List Value} (h : w.ownsRow B e k v n xs) (hb : b < B) (a0 a1 a2 : Value) : (((w.setCell ⟨b, 0, none⟩ a0).setCell ⟨b, 1, none⟩ a1).setCell ⟨b, 2, none⟩ a2).ownsRow B e k v n xs := by
  have key : ∀ (w : World) (j : Nat) (u : Value), w.ownsRow B e k v n xs → (w.setCell ⟨b, j, none⟩ u).ownsRow B e k v n xs := fun w j u h => own_set h (fun g hg e => by have := (h.lt g hg).1; simp only at e; omega) u
  exact key _ _ _ (key _ _ _ (key _ _ _ h))

theorem Valid.word {s : Sg} {l : List Cd} {so : Bool} (h : Valid s l so) {d k : Nat} {c : Cd} {x : ByteArray} (hc : l[d]? = some c) (hx : c.w[k]? = some x) : ∃ (i : Nat) (t : Tm), s.ts[i]? = some t ∧ t.t = x ∧ (((d : Int), (k : Int)), i) ∈ S.laid l ∧ i < 200 := by
  have hm : x ∈ S.words l := S.mem_words.2 ⟨c, List.mem_of_getElem? hc, List.mem_of_getElem? hx⟩
  obtain ⟨i, hi, e⟩ := List.mem_iff_getElem.1 hm
  have hw : (S.words l)[i]? = some x := by rw [List.getElem?_eq_getElem hi, e]
  refine ⟨i, S.term l x, ?_, rfl, S.mem_laid.2 ⟨d, k, c, x, rfl, hc, hx, hw⟩, by have := h.2.few; omega⟩
  rw [h.1]
  show ((S.words l).map (S.term l))[i]? = _
  rw [List.getElem?_map, hw]
  rfl

set_option maxRecDepth 100000 in
set_option maxHeartbeats 8000000 in
theorem sread_any (ia ka lna ta : Option Addr) (ic kc lnc tc : Nat) (s : Sg) (so : Bool) (l : List Cd) (b n : Nat) (M : DataW Unit) (d : Nat) (c : Cd) (w : World) (h : Sv w (.slice ia s.ids.length ic) (.slice ka s.keys.length kc) (.slice lna s.lens.length lnc) (.slice ta s.ts.length tc) s) (hV : Valid s l so) (hM : Map8 w b n M) (hT : Tel M (S.laid l)) (hc : l[d]? = some c) :
    Calls Try.prog 60 #[.agg #[.slice ia s.ids.length ic, .slice ka s.keys.length kc, .slice lna s.lens.length lnc, .slice ta s.ts.length tc, .bool so], .map (some b), .int .i64 (d : Int)] w fun e w' => ∃ vw, e = .returned (.agg #[.string c.id, .int .i64 c.key, vw]) ∧ w'.ownsRow w.heap.size 9 1 vw c.w.length (c.w.map Value.string) ∧ Below w.heap.size w w' := by
  obtain ⟨i9, hi9, hz90, hz91, hz92⟩ := info_parts Try.infoS
  obtain ⟨n1, n2, n3, n4⟩ := hV.lens
  have h64 := hV.2.len
  have hd := (List.getElem?_eq_some_iff.1 hc).1
  obtain ⟨a1, a2, a3⟩ := hV.at hc
  have hcw := (S.fits_w (hV.2.fit c (List.mem_of_getElem? hc))).1
  obtain ⟨W, hW⟩ : ∃ W, W = (w.alloc (.cells #[.slice ia s.ids.length ic, .slice ka s.keys.length kc, .slice lna s.lens.length lnc, .slice ta s.ts.length tc, .bool so] 31)).alloc (.cells #[.string ⟨#[]⟩, .int .i64 0, .slice none 0 0] 25) := ⟨_, rfl⟩
  have BW : Below w.heap.size w W := by rw [hW]; exact below_all (below_alloc _ _) _
  have X0 : W.heap[w.heap.size]? = some (.cells #[.slice ia s.ids.length ic, .slice ka s.keys.length kc, .slice lna s.lens.length lnc, .slice ta s.ts.length tc, .bool so] 31 (0, 0)) := by rw [hW, Below.heap_alloc _ _ _ (by simp)]; exact heap_alloc_new w _
  have R0 : W.heap[w.heap.size + 1]? = some (.cells #[.string ⟨#[]⟩, .int .i64 0, .slice none 0 0] 25 (0, 0)) := by
    rw [hW]
    have := heap_alloc_new (w.alloc (.cells #[.slice ia s.ids.length ic, .slice ka s.keys.length kc, .slice lna s.lens.length lnc, .slice ta s.ts.length tc, .bool so] 31)) (.cells #[.string ⟨#[]⟩, .int .i64 0, .slice none 0 0] 25)
    simpa using this
  have HV := h.below BW
  have HW := hide hW
  have MW := map_keep hM (BW.block _ hM.lt)
  have CH := head_any ia ka lna ta ic kc lnc tc s so d _ rfl _ _ W HV a1 a2
  have HVA := hide hV
  have HTE := hide hT
  have HC := hide hc
  have p3 : (d : Int) < (s.lens.length : Int) := by omega
  have hd3 : d < s.lens.length := by omega
  clear hW hV hT hc hM h n1 n2 n3 n4
  go_enter Try.func60, Try.ntmps60
  go_wp2_with fail
  rw [← unhide HW]
  refine CH.mono ?_
  rintro e w1 ⟨rfl, B1⟩
  have X1 := box_below X0 B1
  have R1 := box_below R0 B1
  have BB := below_trans' BW B1
  have HV1 := HV.below B1
  have M1 := map_keep MW (B1.block _ MW.lt)
  have hz1 : w.heap.size + 1 < w1.heap.size := (Array.getElem?_eq_some_iff.1 R1).1
  have hz2 : w.heap.size < w1.heap.size := by omega
  obtain ⟨a', c', hv', -, -, -, ho3⟩ := HV1.2.2.1.open
  simp only [Value.slice.injEq, true_and] at hv'
  obtain ⟨rfl, rfl⟩ := hv'
  obtain ⟨b3, o3, rfl, hb3, hc3⟩ := ho3 (by omega)
  have e3 := hc3 d (by omega)
  rw [show s.lens.getD d 0 = (c.w.length : Int) by simp [List.getD, a3]] at e3
  have y2 := box_cell X1 (j := 2) rfl
  have y3 := box_cell X1 (j := 3) rfl
  have rx0 : Rx w1.heap.size (w1.alloc (.cells #[.string c.id, .int .i64 c.key, .slice none 0 0] 25)) c (.slice none 0 0) [] := ⟨heap_alloc_new w1 _, World.ownsRow_nil _ _ _ _⟩
  have HTS1 := HV1.2.2.2
  clear B1 X0 R0 CH HV MW hc3 ho3
  go_wp2
  go_loopw [17] (fun iv wr => ∃ (k : Nat) (vw : Value) (pre : List ByteArray), k ≤ c.w.length ∧ iv = .int .i64 k ∧ Hid (pre = c.w.take k) ∧ pre.length ≤ k ∧ Rx w1.heap.size wr c vw pre ∧ Below w1.heap.size w1 wr ∧ w1.heap.size < wr.heap.size) (fun iv _ => c.w.length - (intOf iv).toNat)
  case atStart => exact ⟨0, _, [], Nat.zero_le _, rfl, rfl, Nat.zero_le _, rx0, below_alloc _ _, by simp⟩
  case round =>
    clear rx0 y2 e3
    obtain ⟨k, vw, pre, hk, rfl, HP, hpl, hrx, hbel, hsz⟩ := hrel
    by_cases hlt : k < c.w.length
    · obtain ⟨x, hx⟩ : ∃ x, c.w[k]? = some x := ⟨c.w[k], List.getElem?_eq_getElem hlt⟩
      obtain ⟨i, t, ht, rfl, hlaid, hi200⟩ := (unhide HVA).word (unhide HC) hx
      have hil := (List.getElem?_eq_some_iff.1 ht).1
      obtain ⟨a', c', hv', -, -, -, hoT⟩ := (HTS1.below hbel).open
      simp only [Value.slice.injEq, true_and] at hv'
      obtain ⟨rfl, rfl⟩ := hv'
      obtain ⟨tb, off, rfl, htb, hct⟩ := hoT (by omega)
      obtain ⟨pa, pc, t0, -, -⟩ := hct i t ht
      have MR := map_keep M1 (hbel.block _ M1.lt)
      have lk := run_taken (d := (d : Int)) (k := (k : Int)) (i := i) (MR.drew) (unhide HTE) (WalkArith.wf_i64 (by omega)) (WalkArith.wf_i64 (by omega)) hlaid
      have XR := (hbel.block _ hz2).trans X1
      have s3 := box_cell XR (j := 3) rfl
      have s2 := box_cell hrx.1 (j := 2) rfl
      have f2 := bfro hrx.1 2
      have HTK := hide (take_snoc8 hx)
      have HRX := hide hrx
      have ORW := hrx.2
      have q1 : tb ≠ wr.heap.size := by omega
      have q2 : w.heap.size ≠ wr.heap.size := by omega
      have q3 : w1.heap.size ≠ wr.heap.size := by omega
      have hpl9 : pre.length < 200 := by omega
      obtain ⟨va, vc, hvw, -⟩ := id (Gl.owned hrx.2)
      subst hvw
      have hne : (Value.slice va pre.length vc).ownBlock ≠ some w1.heap.size := fun e => by have := (ORW.lt _ e).1; omega
      clear hx ht hct hoT hrx XR MR
      go_wp2
      go_region_law
        ((refine step_append_lies _ (by rfl) _ _ _ (by rfl) (w1.heap.size + 1) 9 i9 _ 1 16 Try.underlying23 hi9 hz90 hz91 hz92 rfl (by omega) (.slice va pre.length vc) _ _ (by rfl) ((ORW.alloc _).drew)
                  ⟨wr.heap.size, 0, none⟩ 1 1 [.string t.t] (by rfl) (by rfl) (World.news_of_block (cs := #[.string t.t]) (t := 9) (fr := (0, 0)) (heap_alloc_new wr _)) (by simp [Value.oneCell'])
                  (by omega) (by unfold maxLen; omega) (by omega) (by simp; omega) (wr.heap.size + 1) (by simp) ?_; intro g5 q5 w5 O5 g5' l5 lt5; have s5 := (g5'.cell_far ⟨w1.heap.size, 2, none⟩ (by simp; omega) (Ne.symm hne)).trans (cell_keep s2 (below_alloc wr _).drew); have f5 := (g5'.frozen_far ⟨w1.heap.size, 2, none⟩ (by simp; omega) (Ne.symm hne)).trans (frozen_keep8 f2 (below_alloc wr _).drew hsz)))
      all_goals
        have K5 : Rx w1.heap.size (w5.setCell ⟨w1.heap.size, 2, none⟩ (.slice (some ⟨g5, 0, none⟩) (pre.length + 1) q5)) c (.slice (some ⟨g5, 0, none⟩) (pre.length + 1) q5) (pre ++ [t.t]) := (unhide HRX).step (by simpa using O5) ((grown_below (below_alloc wr _).drew _).trans g5')
        have B5 : Below w1.heap.size w1 (w5.setCell ⟨w1.heap.size, 2, none⟩ (.slice (some ⟨g5, 0, none⟩) (pre.length + 1) q5)) := ((((hbel.alloc (by omega) _).drew).grown g5' (by simp; omega) (fun j hj => by have := (ORW.lt j hj).1; omega))).setCell (Nat.le_refl _) _
        have hz5 : w1.heap.size < (w5.setCell ⟨w1.heap.size, 2, none⟩ (.slice (some ⟨g5, 0, none⟩) (pre.length + 1) q5)).heap.size := by have := g5'.size; simp at this ⊢; omega
        have HK5 := hide K5
        clear K5 O5 g5' l5 lt5 s5 f5 lk s3 s2 f2 ORW HRX t0
        go_wp2
        go_roundw
        case rel => exact ⟨k + 1, _, pre ++ [t.t], by omega, by go_num, by (show _ = _; rw [unhide HTK, unhide HP]), by simp; omega, unhide HK5, B5, hz5⟩
        case measure => simp [intOf]; omega
    · have hpre : pre = c.w := by rw [unhide HP, List.take_of_length_le (by omega)]
      subst hpre
      have RR := (hbel.block _ hz1).trans R1
      obtain ⟨va, vc, hvw, -⟩ := id (Gl.owned hrx.2)
      subst hvw
      have s0 := box_cell hrx.1 (j := 0) rfl
      have s1 := box_cell hrx.1 (j := 1) rfl
      have s2 := box_cell hrx.1 (j := 2) rfl
      have r0 := box_cell RR (j := 0) rfl
      have r1 := box_cell RR (j := 1) rfl
      have r2 := box_cell RR (j := 2) rfl
      have f0 := bfro RR 0
      have f1 := bfro RR 1
      have f2 := bfro RR 2
      have OE := hide (own_three (own_mono hrx.2 (B' := w.heap.size + 2) (by omega)) (b := w.heap.size + 1) (by omega) (.string c.id) (.int .i64 c.key) (.slice va c.w.length vc))
      have BE := set3_below (b := w.heap.size + 1) (below_trans' BB hbel) (by omega) (.string c.id) (.int .i64 c.key) (.slice va c.w.length vc)
      clear hrx RR HP
      go_wp2
      exact bodyPost_ret (v := .agg #[.string c.id, .int .i64 c.key, .slice va c.w.length vc]) (by simp [results, Try.results60, go_sem, r0, r1, r2]) rfl ⟨_, rfl, own_mono (unhide OE) (by omega), BE⟩
end Go.Proofs.Ytonhehhmnobciaa
