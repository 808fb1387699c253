/-
  The contract of Has, at a segment that may be.
-/
import Derived.Test.YtonhehhmnobciaaSegA8
import Derived.Test.YtonhehhmnobciaaOwnS8
namespace Go.Proofs.Ytonhehhmnobciaa
set_option maxRecDepth 100000
open Go.RowKit

theorem find_some {l : List Cd} {so : Bool} (h : S.Ok l so) {t : ByteArray} (ht : t ∈ S.words l) : D.findR (S.words l) t = (D.bel (S.words l) t : Int) ∧ (S.words l)[D.bel (S.words l) t]? = some t := by
  have hb := (D.mem_bel (S.words_rise l)).1 ht
  exact ⟨by unfold D.findR; rw [if_pos ⟨h.may, hb⟩], hb⟩
theorem find_none {l : List Cd} {t : ByteArray} (ht : t ∉ S.words l) : D.findR (S.words l) t = -1 := by
  unfold D.findR
  rw [if_neg]
  rintro ⟨-, h⟩
  exact ht (List.mem_of_getElem? h)
theorem posts_nil {l : List Cd} {t : ByteArray} (ht : t ∉ S.words l) : S.posts l t = [] := by
  rw [List.eq_nil_iff_forall_not_mem]
  intro p hp
  obtain ⟨d, c, hc, -, hne⟩ := S.mem_posts.1 hp
  have : t ∉ c.w := fun h => ht (S.mem_words.2 ⟨c, List.mem_of_getElem? hc, h⟩)
  exact hne (S.places_nil.2 this)

set_option maxRecDepth 100000 in
set_option maxHeartbeats 4000000 in
theorem has_any (ia ka lna ta : Option Addr) (ic kc lnc tc : Nat) (s : Sg) (so : Bool) (l : List Cd) (t : ByteArray) (w : World) (h : Sv w (.slice ia s.ids.length ic) (.slice ka s.keys.length kc) (.slice lna s.lens.length lnc) (.slice ta s.ts.length tc) s) (hV : Valid s l so) :
    Calls Try.prog 21 #[.agg #[.slice ia s.ids.length ic, .slice ka s.keys.length kc, .slice lna s.lens.length lnc, .slice ta s.ts.length tc, .bool so], .string t] w fun e w' => ∃ v', e = .returned v' ∧ Pl w' v' ((S.posts l t).map S.pt) ∧ Below w.heap.size w w' := by
  obtain ⟨W, hW⟩ : ∃ W, W = w.alloc (.cells #[.slice ia s.ids.length ic, .slice ka s.keys.length kc, .slice lna s.lens.length lnc, .slice ta s.ts.length tc, .bool so] 31) := ⟨_, rfl⟩
  have BW : Below w.heap.size w W := by rw [hW]; exact below_alloc _ _
  have X0 : W.heap[w.heap.size]? = some (.cells #[.slice ia s.ids.length ic, .slice ka s.keys.length kc, .slice lna s.lens.length lnc, .slice ta s.ts.length tc, .bool so] 31 (0, 0)) := by rw [hW]; exact heap_alloc_new w _
  have HV := h.below BW
  have HW := hide hW
  clear hW
  have C := segMay_any ia ka lna ta ic kc lnc tc s so l W HV hV
  have hwd := hide hV.words
  have h200 := hV.2.few
  have hts : s.ts.length ≤ 1000 := by have := hV.lens.2.2.2; omega
  have HVA := hide hV
  clear hV h
  by_cases ht : t ∈ S.words l
  · obtain ⟨hf1, hf2⟩ := find_some (unhide HVA).2 ht
    obtain ⟨i, hi⟩ : ∃ i, D.bel (S.words l) t = i := ⟨_, rfl⟩
    rw [hi] at hf1 hf2
    have HF := hide hf1
    have hst : s.ts[i]? = some (S.term l t) := by
      rw [(unhide HVA).1]
      show ((S.words l).map (S.term l))[i]? = _
      rw [List.getElem?_map, hf2]
      rfl
    have hil := (List.getElem?_eq_some_iff.1 hst).1
    have hi200 : i < 200 := by have := (unhide HVA).lens.2.2.2; omega
    have hq : ((i : Int) == -1) = false := by simp
    have HST := hide hst
    clear hf1 hf2 ht hi hst
    go_enter Try.func21, Try.ntmps21
    go_wp2_with fail
    rw [← unhide HW]
    refine C.mono ?_
    rintro e w1 ⟨rfl, B1⟩
    have X1 := box_below X0 B1
    have HV1 := HV.below B1
    have BB := below_trans' BW B1
    have x0 := box_cell X1 (j := 0) rfl
    have x1 := box_cell X1 (j := 1) rfl
    have x2 := box_cell X1 (j := 2) rfl
    have x3 := box_cell X1 (j := 3) rfl
    have x4 := box_cell X1 (j := 4) rfl
    clear C HV X0 B1
    go_wp2_with fail
    refine (wordsOf_any ia ka lna ta ic kc lnc tc s so _ HV1 hts).mono ?_
    rintro e w2 ⟨v2, rfl, G2, B2⟩
    rw [unhide hwd] at G2
    have X2 := box_below X1 B2
    have HV2 := HV1.below B2
    have BB2 := below_trans' BB B2
    have CF := find_any _ _ t w2 G2 _ (unhide HF)
    obtain ⟨a', c', hv', -, -, -, hoT⟩ := HV2.2.2.2.open
    simp only [Value.slice.injEq, true_and] at hv'
    obtain ⟨rfl, rfl⟩ := hv'
    obtain ⟨b, off, rfl, hb, hct⟩ := hoT (by omega)
    obtain ⟨pa, pc, -, t1, P1⟩ := hct i _ (unhide HST)
    have x3' := box_cell X2 (j := 3) rfl
    have CO := own_any _ _ w2 P1 ⟨by show ((S.posts l t).map S.pt).length ≤ 100; rw [List.length_map]; have := S.posts_len l t; have := (unhide HVA).2.len; omega, fun p hp => by
      obtain ⟨q, hq, rfl⟩ := List.mem_map.1 hp
      exact S.posts_sizes hq fun c hc => by have := (S.fits_w ((unhide HVA).2.fit c hc)).1; omega⟩
    clear X1 HV1 BB B2 G2 hct hoT x0 x1 x2 x3 x4
    go_wp2_with (first
      | (go_at_call 50; refine CF.mono ?_; rintro e w3 ⟨rfl, rfl⟩)
      | (go_at_call 52; refine CO.mono ?_; rintro e w4 ⟨v4, cs, rfl, O4, P4, -, B4⟩))
    have BE := below_trans' BB2 B4
    have PE := pl_of O4 (P4.turn fun _ _ h => Pa.sl h)
    go_ret
    exact ⟨_, rfl, PE, BE⟩
  · have HF := hide (find_none ht)
    have HN := hide (posts_nil ht)
    clear ht
    go_enter Try.func21, Try.ntmps21
    go_wp2_with fail
    rw [← unhide HW]
    refine C.mono ?_
    rintro e w1 ⟨rfl, B1⟩
    have X1 := box_below X0 B1
    have HV1 := HV.below B1
    have BB := below_trans' BW B1
    have x0 := box_cell X1 (j := 0) rfl
    have x1 := box_cell X1 (j := 1) rfl
    have x2 := box_cell X1 (j := 2) rfl
    have x3 := box_cell X1 (j := 3) rfl
    have x4 := box_cell X1 (j := 4) rfl
    clear C HV X0 B1
    go_wp2_with fail
    refine (wordsOf_any ia ka lna ta ic kc lnc tc s so _ HV1 hts).mono ?_
    rintro e w2 ⟨v2, rfl, G2, B2⟩
    rw [unhide hwd] at G2
    have BB2 := below_trans' BB B2
    have CF := find_any _ _ t w2 G2 _ (unhide HF)
    clear X1 HV1 BB B2 G2 x0 x1 x2 x3 x4
    go_wp2_with (go_at_call 50; refine CF.mono ?_; rintro e w3 ⟨rfl, rfl⟩)
    go_ret
    exact ⟨_, rfl, by rw [unhide HN]; exact Pl.nil _, BB2⟩
end Go.Proofs.Ytonhehhmnobciaa
