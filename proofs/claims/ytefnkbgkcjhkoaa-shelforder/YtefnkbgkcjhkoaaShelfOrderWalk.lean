/-
  The walk of the law of the order in which two cards are put.
-/
import Derived.Test.YtefnkbgkcjhkoaaQ19
import Derived.BigQuiet
namespace Go.Proofs.Ytefnkbgkcjhkoaa
set_option maxRecDepth 100000
open Go.RowKit

set_option maxRecDepth 100000 in
set_option maxHeartbeats 8000000 in
theorem shelfOrder_walk (v : Value) (L : List Cd) (c : Cd) (wa : Option Addr) (wc : Nat) (d : Cd) (wb : Option Addr) (wd : Nat) (w : World) (h : Cs w v L) (hG : Gl .string w (.slice wa c.w.length wc) c.w) (hG2 : Gl .string w (.slice wb d.w.length wd) d.w) :
    Calls Try.prog 6 #[v, .agg #[.string c.id, .int .i64 c.key, .slice wa c.w.length wc], .agg #[.string d.id, .int .i64 d.key, .slice wb d.w.length wd]] w fun e w' => e = .returned (.bool true) ∧ Below w.heap.size w w' := by
  obtain ⟨W, hW⟩ : ∃ W, W = (w.alloc (.cells #[.string c.id, .int .i64 c.key, .slice wa c.w.length wc] 30)).alloc (.cells #[.string d.id, .int .i64 d.key, .slice wb d.w.length wd] 30) := ⟨_, rfl⟩
  have BW : Below w.heap.size w W := by rw [hW]; exact below_all (below_alloc _ _) _
  have HL := h.below BW
  have HG := hG.below BW
  have HG2 := hG2.below BW
  have X0 : W.heap[w.heap.size]? = some (.cells #[.string c.id, .int .i64 c.key, .slice wa c.w.length wc] 30 (0, 0)) := by rw [hW]; exact box_below (heap_alloc_new w _) (below_alloc _ _)
  have X1 : W.heap[w.heap.size + 1]? = some (.cells #[.string d.id, .int .i64 d.key, .slice wb d.w.length wd] 30 (0, 0)) := by
    rw [hW]
    have := heap_alloc_new (w.alloc (.cells #[.string c.id, .int .i64 c.key, .slice wa c.w.length wc] 30)) (.cells #[.string d.id, .int .i64 d.key, .slice wb d.w.length wd] 30)
    simpa using this
  have x0 := box_cell X0 (j := 0) rfl
  have x1 := box_cell X0 (j := 1) rfl
  have x2 := box_cell X0 (j := 2) rfl
  have z0 := box_cell X1 (j := 0) rfl
  have z1 := box_cell X1 (j := 1) rfl
  have z2 := box_cell X1 (j := 2) rfl
  obtain ⟨a, cap, rfl, -⟩ := h.open
  have HW := hide hW
  clear hW h hG hG2 X0 X1
  obtain ⟨ee, hee⟩ : ∃ ee, H.putE L c = ee := ⟨_, rfl⟩
  have Hee := hide hee
  clear hee
  obtain ⟨P, hP⟩ : ∃ P, H.putA L c = P := ⟨_, rfl⟩
  have HP := hide hP
  clear hP
  obtain ⟨ff, hff⟩ : ∃ ff, H.putE L d = ff := ⟨_, rfl⟩
  have Hff := hide hff
  clear hff
  obtain ⟨Q, hQ⟩ : ∃ Q, H.putA L d = Q := ⟨_, rfl⟩
  have HQ := hide hQ
  clear hQ
  go_enter Try.func6, Try.ntmps6
  have CC1 := awake13_any W
  go_wp2_with fail
  rw [← unhide HW]
  refine CC1.mono ?_
  rintro e w1 ⟨rfl, B1⟩
  have BB1 := B1
  replace HL := HL.below B1
  replace HG := HG.below B1
  replace x0 := cell_keep x0 B1
  replace x1 := cell_keep x1 B1
  replace x2 := cell_keep x2 B1
  replace HG2 := HG2.below B1
  replace z0 := cell_keep z0 B1
  replace z1 := cell_keep z1 B1
  replace z2 := cell_keep z2 B1
  clear CC1 B1
  have CC2 := few13_any (.slice a L.length cap) L w1 HL
  go_wp2_with fail
  refine CC2.mono ?_
  rintro e w2 ⟨r1, rfl, hr1, B2⟩
  have BB2 := below_trans' BB1 B2
  replace HL := HL.below B2
  replace HG := HG.below B2
  replace x0 := cell_keep x0 B2
  replace x1 := cell_keep x1 B2
  replace x2 := cell_keep x2 B2
  replace HG2 := HG2.below B2
  replace z0 := cell_keep z0 B2
  replace z1 := cell_keep z1 B2
  replace z2 := cell_keep z2 B2
  clear CC2 B2
  have Hr1 := hide hr1
  clear hr1
  have CC3 := one13_any c wa wc w2 HG
  go_wp2_with fail
  refine CC3.mono ?_
  rintro e w3 ⟨r2, rfl, hr2, B3⟩
  have BB3 := below_trans' BB2 B3
  replace HL := HL.below B3
  replace HG := HG.below B3
  replace x0 := cell_keep x0 B3
  replace x1 := cell_keep x1 B3
  replace x2 := cell_keep x2 B3
  replace HG2 := HG2.below B3
  replace z0 := cell_keep z0 B3
  replace z1 := cell_keep z1 B3
  replace z2 := cell_keep z2 B3
  clear CC3 B3
  have Hr2 := hide hr2
  clear hr2
  have CC4 := one13_any d wb wd w3 HG2
  go_wp2_with fail
  refine CC4.mono ?_
  rintro e w4 ⟨r3, rfl, hr3, B4⟩
  have BB4 := below_trans' BB3 B4
  replace HL := HL.below B4
  replace HG := HG.below B4
  replace x0 := cell_keep x0 B4
  replace x1 := cell_keep x1 B4
  replace x2 := cell_keep x2 B4
  replace HG2 := HG2.below B4
  replace z0 := cell_keep z0 B4
  replace z1 := cell_keep z1 B4
  replace z2 := cell_keep z2 B4
  clear CC4 B4
  have Hr3 := hide hr3
  clear hr3
  cases r1 with
  | false =>
    go_wp2
    go_ret
    exact ⟨rfl, below_trans' BW BB4⟩
  | true =>
    cases r2 with
    | false =>
      go_wp2
      go_ret
      exact ⟨rfl, below_trans' BW BB4⟩
    | true =>
      cases r3 with
      | false =>
        go_wp2
        go_ret
        exact ⟨rfl, below_trans' BW BB4⟩
      | true =>
        by_cases g9 : (1098 : Int) < L.length
        · go_wp2
          go_ret
          exact ⟨rfl, below_trans' BW BB4⟩
        have hll : L.length * 48 ≤ 140737488351232 := by have := (unhide Hr1 rfl).1; omega
        have hws : ∀ x ∈ L, x.w.length * 16 ≤ 140737488351232 := fun x hx => by have := ((unhide Hr1 rfl).2 x hx).2; omega
        have HLL := hide hll
        have HWS := hide hws
        clear hll hws
        have CC5 := put13_any (.slice a L.length cap) L c wa wc w4 HL HG (unhide HLL) (unhide HWS)
        unfold PutEnd13 at CC5
        rw [unhide Hee, unhide HP] at CC5
        go_wp2_with fail
        refine CC5.mono ?_
        rintro e w5 ⟨v1, rfl, C1, B5⟩
        have BB5 := below_trans' BB4 B5
        replace HL := HL.below B5
        replace HG := HG.below B5
        replace x0 := cell_keep x0 B5
        replace x1 := cell_keep x1 B5
        replace x2 := cell_keep x2 B5
        replace HG2 := HG2.below B5
        replace z0 := cell_keep z0 B5
        replace z1 := cell_keep z1 B5
        replace z2 := cell_keep z2 B5
        clear CC5 B5
        obtain ⟨a1, n1, rfl⟩ := C1.lens13 rfl
        have CC6 := put13_any (.slice a L.length cap) L d wb wd w5 HL HG2 (unhide HLL) (unhide HWS)
        unfold PutEnd13 at CC6
        rw [unhide Hff, unhide HQ] at CC6
        go_wp2_with fail
        refine CC6.mono ?_
        rintro e w6 ⟨v2, rfl, C2, B6⟩
        have BB6 := below_trans' BB5 B6
        replace HL := HL.below B6
        replace HG := HG.below B6
        replace x0 := cell_keep x0 B6
        replace x1 := cell_keep x1 B6
        replace x2 := cell_keep x2 B6
        replace HG2 := HG2.below B6
        replace z0 := cell_keep z0 B6
        replace z1 := cell_keep z1 B6
        replace z2 := cell_keep z2 B6
        replace C1 := C1.below B6
        clear CC6 B6
        obtain ⟨a2, n2, rfl⟩ := C2.lens13 rfl
        by_cases hee : ee = 0
        · by_cases hff : ff = 0
          · subst hee
            subst hff
            obtain ⟨hmay, hfc, hrc⟩ := H.putE_ok.1 (unhide Hee)
            obtain ⟨-, hfd, hrd⟩ := H.putE_ok.1 (unhide Hff)
            have hup := H.may_up hmay
            have hP : P = H.put L c := by rw [← unhide HP, H.putA_ok (unhide Hee)]
            have hQ : Q = H.put L d := by rw [← unhide HQ, H.putA_ok (unhide Hff)]
            have hmP : H.may P = true := by rw [hP]; exact H.may_put hmay hfc hrc
            have hmQ : H.may Q = true := by rw [hQ]; exact H.may_put hmay hfd hrd
            have hlP : P.length ≤ 1099 := by rw [hP]; have := (H.put_le hup c).2; omega
            have hlQ : Q.length ≤ 1099 := by rw [hQ]; have := (H.put_le hup d).2; omega
            obtain ⟨eU, hU⟩ := H.put_done (L := P) (c := d) hmP hfd (.inr (by omega))
            obtain ⟨eV, hV⟩ := H.put_done (L := Q) (c := c) hmQ hfc (.inr (by omega))
            have HWP : Hid (∀ x ∈ P, x.w.length * 16 ≤ 140737488351232) := hide (fun x hx => by have := (H.may_iff.1 hmP).2.1 x hx; simp only [S.fits, Bool.and_eq_true, decide_eq_true_eq] at this; omega)
            have HWQ : Hid (∀ x ∈ Q, x.w.length * 16 ≤ 140737488351232) := hide (fun x hx => by have := (H.may_iff.1 hmQ).2.1 x hx; simp only [S.fits, Bool.and_eq_true, decide_eq_true_eq] at this; omega)
            have HEQ : Hid (c.id = d.id → H.putA P d = Q ∧ H.putA Q c = P) := hide (fun he => ⟨by rw [hU, hP, hQ, H.put_twice hup he], by rw [hV, hP, hQ, H.put_twice hup he.symm]⟩)
            have HNE : Hid (c.id ≠ d.id → H.putA P d = H.putA Q c) := hide (fun he => by rw [hU, hV, hP, hQ, H.put_turn hup he])
            have HEU := hide eU
            have HEV := hide eV
            have HLP := hide (show P.length * 48 ≤ 140737488351232 by omega)
            have HLQ := hide (show Q.length * 48 ≤ 140737488351232 by omega)
            clear hmay hfc hrc hfd hrd hup hP hQ hmP hmQ hlP hlQ eU hU eV hV
            obtain ⟨U, hU⟩ : ∃ U, H.putA P d = U := ⟨_, rfl⟩
            have HU := hide hU
            clear hU
            obtain ⟨V, hV⟩ : ∃ V, H.putA Q c = V := ⟨_, rfl⟩
            have HV := hide hV
            clear hV
            have CC7 := put13_any _ P d wb wd w6 C1 HG2 (unhide HLP) (unhide HWP)
            unfold PutEnd13 at CC7
            rw [unhide HEU, unhide HU] at CC7
            go_wp2_with fail
            refine CC7.mono ?_
            rintro e w7 ⟨v3, rfl, C3, B7⟩
            have BB7 := below_trans' BB6 B7
            replace HL := HL.below B7
            replace HG := HG.below B7
            replace x0 := cell_keep x0 B7
            replace x1 := cell_keep x1 B7
            replace x2 := cell_keep x2 B7
            replace HG2 := HG2.below B7
            replace z0 := cell_keep z0 B7
            replace z1 := cell_keep z1 B7
            replace z2 := cell_keep z2 B7
            replace C1 := C1.below B7
            replace C2 := C2.below B7
            clear CC7 B7
            obtain ⟨a3, n3, rfl⟩ := C3.lens13 rfl
            have CC8 := put13_any _ Q c wa wc w7 C2 HG (unhide HLQ) (unhide HWQ)
            unfold PutEnd13 at CC8
            rw [unhide HEV, unhide HV] at CC8
            go_wp2_with fail
            refine CC8.mono ?_
            rintro e w8 ⟨v4, rfl, C4, B8⟩
            have BB8 := below_trans' BB7 B8
            replace HL := HL.below B8
            replace HG := HG.below B8
            replace x0 := cell_keep x0 B8
            replace x1 := cell_keep x1 B8
            replace x2 := cell_keep x2 B8
            replace HG2 := HG2.below B8
            replace z0 := cell_keep z0 B8
            replace z1 := cell_keep z1 B8
            replace z2 := cell_keep z2 B8
            replace C1 := C1.below B8
            replace C2 := C2.below B8
            replace C3 := C3.below B8
            clear CC8 B8
            obtain ⟨a4, n4, rfl⟩ := C4.lens13 rfl
            by_cases hid : c.id = d.id
            · have he : (c.id.toList == d.id.toList) = true := by rw [hid]; simp
              have HUQ : Hid (U = Q) := by show _ = _; rw [← unhide HU]; exact (unhide HEQ hid).1
              have HVP : Hid (V = P) := by show _ = _; rw [← unhide HV]; exact (unhide HEQ hid).2
              clear hid
              have CC9 := same13_any _ _ U Q w8 C3 C2
              go_wp2_with fail
              refine CC9.mono ?_
              rintro e w9 ⟨s1, rfl, hs1, B9⟩
              have BB9 := below_trans' BB8 B9
              replace HL := HL.below B9
              replace HG := HG.below B9
              replace x0 := cell_keep x0 B9
              replace x1 := cell_keep x1 B9
              replace x2 := cell_keep x2 B9
              replace HG2 := HG2.below B9
              replace z0 := cell_keep z0 B9
              replace z1 := cell_keep z1 B9
              replace z2 := cell_keep z2 B9
              replace C1 := C1.below B9
              replace C2 := C2.below B9
              replace C3 := C3.below B9
              replace C4 := C4.below B9
              clear CC9 B9
              obtain rfl : s1 = true := hs1.2 (unhide HUQ)
              clear hs1
              have CC10 := same13_any _ _ V P w9 C4 C1
              go_wp2_with fail
              refine CC10.mono ?_
              rintro e w10 ⟨s2, rfl, hs2, B10⟩
              have BB10 := below_trans' BB9 B10
              replace HL := HL.below B10
              replace HG := HG.below B10
              replace x0 := cell_keep x0 B10
              replace x1 := cell_keep x1 B10
              replace x2 := cell_keep x2 B10
              replace HG2 := HG2.below B10
              replace z0 := cell_keep z0 B10
              replace z1 := cell_keep z1 B10
              replace z2 := cell_keep z2 B10
              replace C1 := C1.below B10
              replace C2 := C2.below B10
              replace C3 := C3.below B10
              replace C4 := C4.below B10
              clear CC10 B10
              obtain rfl : s2 = true := hs2.2 (unhide HVP)
              clear hs2
              clear C1 C2 C3 C4 HL HG HG2 x0 x1 x2 z0 z1 z2
              go_wp2
              go_ret
              exact ⟨rfl, below_trans' BW BB10⟩
            · have he : (c.id.toList == d.id.toList) = false := by rw [K.eq_to]; simpa using hid
              have HUV : Hid (U = V) := by show _ = _; rw [← unhide HU, ← unhide HV]; exact unhide HNE hid
              clear hid
              have CC9 := same13_any _ _ U V w8 C3 C4
              go_wp2_with fail
              refine CC9.mono ?_
              rintro e w9 ⟨s1, rfl, hs1, B9⟩
              have BB9 := below_trans' BB8 B9
              replace HL := HL.below B9
              replace HG := HG.below B9
              replace x0 := cell_keep x0 B9
              replace x1 := cell_keep x1 B9
              replace x2 := cell_keep x2 B9
              replace HG2 := HG2.below B9
              replace z0 := cell_keep z0 B9
              replace z1 := cell_keep z1 B9
              replace z2 := cell_keep z2 B9
              replace C1 := C1.below B9
              replace C2 := C2.below B9
              replace C3 := C3.below B9
              replace C4 := C4.below B9
              clear CC9 B9
              obtain rfl : s1 = true := hs1.2 (unhide HUV)
              clear hs1
              clear C1 C2 C3 C4 HL HG HG2 x0 x1 x2 z0 z1 z2
              go_wp2
              go_ret
              exact ⟨rfl, below_trans' BW BB9⟩
          · subst hee
            have b1ff : (ff == 0) = false := by simpa using hff
            have b2ff : (ff != 0) = true := by simpa using hff
            have HNff := hide hff
            clear hff
            have HQL : Hid (Q = L) := by show _ = _; rw [← unhide HQ, H.putA_no (by rw [unhide Hff]; exact unhide HNff)]
            have CC7 := same13_any _ (.slice a L.length cap) Q L w6 C2 HL
            go_wp2_with fail
            refine CC7.mono ?_
            rintro e w7 ⟨s2, rfl, hs2, B7⟩
            have BB7 := below_trans' BB6 B7
            replace HL := HL.below B7
            replace HG := HG.below B7
            replace x0 := cell_keep x0 B7
            replace x1 := cell_keep x1 B7
            replace x2 := cell_keep x2 B7
            replace HG2 := HG2.below B7
            replace z0 := cell_keep z0 B7
            replace z1 := cell_keep z1 B7
            replace z2 := cell_keep z2 B7
            replace C1 := C1.below B7
            replace C2 := C2.below B7
            clear CC7 B7
            obtain rfl : s2 = true := hs2.2 (unhide HQL)
            clear hs2
            clear C1 C2 HL HG HG2 x0 x1 x2 z0 z1 z2
            go_wp2
            go_ret
            exact ⟨rfl, below_trans' BW BB7⟩
        · by_cases hff : ff = 0
          · have b1ee : (ee == 0) = false := by simpa using hee
            have b2ee : (ee != 0) = true := by simpa using hee
            have HNee := hide hee
            clear hee
            subst hff
            have HPL : Hid (P = L) := by show _ = _; rw [← unhide HP, H.putA_no (by rw [unhide Hee]; exact unhide HNee)]
            have CC7 := same13_any _ (.slice a L.length cap) P L w6 C1 HL
            go_wp2_with fail
            refine CC7.mono ?_
            rintro e w7 ⟨s1, rfl, hs1, B7⟩
            have BB7 := below_trans' BB6 B7
            replace HL := HL.below B7
            replace HG := HG.below B7
            replace x0 := cell_keep x0 B7
            replace x1 := cell_keep x1 B7
            replace x2 := cell_keep x2 B7
            replace HG2 := HG2.below B7
            replace z0 := cell_keep z0 B7
            replace z1 := cell_keep z1 B7
            replace z2 := cell_keep z2 B7
            replace C1 := C1.below B7
            replace C2 := C2.below B7
            clear CC7 B7
            obtain rfl : s1 = true := hs1.2 (unhide HPL)
            clear hs1
            clear C1 C2 HL HG HG2 x0 x1 x2 z0 z1 z2
            go_wp2
            go_ret
            exact ⟨rfl, below_trans' BW BB7⟩
          · have b1ee : (ee == 0) = false := by simpa using hee
            have b2ee : (ee != 0) = true := by simpa using hee
            have HNee := hide hee
            clear hee
            have b1ff : (ff == 0) = false := by simpa using hff
            have b2ff : (ff != 0) = true := by simpa using hff
            have HNff := hide hff
            clear hff
            have HPL : Hid (P = L) := by show _ = _; rw [← unhide HP, H.putA_no (by rw [unhide Hee]; exact unhide HNee)]
            have CC7 := same13_any _ (.slice a L.length cap) P L w6 C1 HL
            go_wp2_with fail
            refine CC7.mono ?_
            rintro e w7 ⟨s1, rfl, hs1, B7⟩
            have BB7 := below_trans' BB6 B7
            replace HL := HL.below B7
            replace HG := HG.below B7
            replace x0 := cell_keep x0 B7
            replace x1 := cell_keep x1 B7
            replace x2 := cell_keep x2 B7
            replace HG2 := HG2.below B7
            replace z0 := cell_keep z0 B7
            replace z1 := cell_keep z1 B7
            replace z2 := cell_keep z2 B7
            replace C1 := C1.below B7
            replace C2 := C2.below B7
            clear CC7 B7
            obtain rfl : s1 = true := hs1.2 (unhide HPL)
            clear hs1
            have HQL : Hid (Q = L) := by show _ = _; rw [← unhide HQ, H.putA_no (by rw [unhide Hff]; exact unhide HNff)]
            have CC8 := same13_any _ (.slice a L.length cap) Q L w7 C2 HL
            go_wp2_with fail
            refine CC8.mono ?_
            rintro e w8 ⟨s2, rfl, hs2, B8⟩
            have BB8 := below_trans' BB7 B8
            replace HL := HL.below B8
            replace HG := HG.below B8
            replace x0 := cell_keep x0 B8
            replace x1 := cell_keep x1 B8
            replace x2 := cell_keep x2 B8
            replace HG2 := HG2.below B8
            replace z0 := cell_keep z0 B8
            replace z1 := cell_keep z1 B8
            replace z2 := cell_keep z2 B8
            replace C1 := C1.below B8
            replace C2 := C2.below B8
            clear CC8 B8
            obtain rfl : s2 = true := hs2.2 (unhide HQL)
            clear hs2
            clear C1 C2 HL HG HG2 x0 x1 x2 z0 z1 z2
            go_wp2
            go_ret
            exact ⟨rfl, below_trans' BW BB8⟩
end Go.Proofs.Ytefnkbgkcjhkoaa
