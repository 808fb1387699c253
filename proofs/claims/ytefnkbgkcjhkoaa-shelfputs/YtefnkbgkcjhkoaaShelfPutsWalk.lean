/-
  The walk of the law of what is put, and deleted.
-/
import Derived.Test.YtefnkbgkcjhkoaaQ19
import Derived.Test.YtefnkbgkcjhkoaaQ12
import Derived.BigQuiet
namespace Go.Proofs.Ytefnkbgkcjhkoaa
set_option maxRecDepth 100000
open Go.RowKit

set_option maxRecDepth 100000 in
set_option maxHeartbeats 8000000 in
theorem shelfPuts_walk (v : Value) (L : List Cd) (c : Cd) (wa : Option Addr) (wc : Nat) (id : ByteArray) (w : World) (h : Cs w v L) (hG : Gl .string w (.slice wa c.w.length wc) c.w) (hll : L.length * 48 ≤ 140737488351232) (hws : ∀ x ∈ L, x.w.length * 16 ≤ 140737488351232) :
    Calls Try.prog 5 #[v, .agg #[.string c.id, .int .i64 c.key, .slice wa c.w.length wc], .string id] w fun e w' => e = .returned (.bool true) ∧ Below w.heap.size w w' := by
  have HLL := hide hll
  have HWS := hide hws
  clear hll hws
  obtain ⟨W, hW⟩ : ∃ W, W = w.alloc (.cells #[.string c.id, .int .i64 c.key, .slice wa c.w.length wc] 30) := ⟨_, rfl⟩
  have BW : Below w.heap.size w W := by rw [hW]; exact below_alloc _ _
  have HL := h.below BW
  have HG := hG.below BW
  have x0 : W.cell? ⟨w.heap.size, 0, none⟩ = some (.string c.id) := by rw [hW]; exact box_cell (heap_alloc_new w _) rfl
  have x1 : W.cell? ⟨w.heap.size, 1, none⟩ = some (.int .i64 c.key) := by rw [hW]; exact box_cell (heap_alloc_new w _) rfl
  have x2 : W.cell? ⟨w.heap.size, 2, none⟩ = some (.slice wa c.w.length wc) := by rw [hW]; exact box_cell (heap_alloc_new w _) rfl
  obtain ⟨a, cap, rfl, -⟩ := h.open
  have HW := hide hW
  clear hW h hG
  obtain ⟨ee, hee⟩ : ∃ ee, H.putE L c = ee := ⟨_, rfl⟩
  have Hee := hide hee
  clear hee
  obtain ⟨X, hX⟩ : ∃ X, H.putA L c = X := ⟨_, rfl⟩
  have HX := hide hX
  clear hX
  go_enter Try.func5, Try.ntmps5
  have CC1 := awake13_any W
  go_wp2_with fail
  rw [← unhide HW]
  refine CC1.mono ?_
  rintro e w1 ⟨rfl, B1⟩
  have BB1 := B1
  replace HL := HL.below B1
  replace HG := HG.below B1
  replace x0 := cell_keep x0 B1
  replace x1 := cell_keep x1 B1
  replace x2 := cell_keep x2 B1
  clear CC1 B1
  have CC2 := few13_any (.slice a L.length cap) L w1 HL
  go_wp2_with fail
  refine CC2.mono ?_
  rintro e w2 ⟨r1, rfl, hr1, B2⟩
  have BB2 := below_trans' BB1 B2
  replace HL := HL.below B2
  replace HG := HG.below B2
  replace x0 := cell_keep x0 B2
  replace x1 := cell_keep x1 B2
  replace x2 := cell_keep x2 B2
  clear CC2 B2
  have Hr1 := hide hr1
  clear hr1
  have CC3 := one13_any c wa wc w2 HG
  go_wp2_with fail
  refine CC3.mono ?_
  rintro e w3 ⟨r2, rfl, hr2, B3⟩
  have BB3 := below_trans' BB2 B3
  replace HL := HL.below B3
  replace HG := HG.below B3
  replace x0 := cell_keep x0 B3
  replace x1 := cell_keep x1 B3
  replace x2 := cell_keep x2 B3
  clear CC3 B3
  have Hr2 := hide hr2
  clear hr2
  have CC4 := put13_any (.slice a L.length cap) L c wa wc w3 HL HG (unhide HLL) (unhide HWS)
  unfold PutEnd13 at CC4
  rw [unhide Hee, unhide HX] at CC4
  go_wp2_with fail
  refine CC4.mono ?_
  rintro e w4 ⟨v1, rfl, C1, B4⟩
  have BB4 := below_trans' BB3 B4
  replace HL := HL.below B4
  replace HG := HG.below B4
  replace x0 := cell_keep x0 B4
  replace x1 := cell_keep x1 B4
  replace x2 := cell_keep x2 B4
  clear CC4 B4
  obtain ⟨a1, n1, rfl⟩ := C1.lens13 rfl
  cases r1 with
  | false =>
    go_wp2
    go_ret
    exact ⟨rfl, below_trans' BW BB4⟩
  | true =>
    cases r2 with
    | false =>
      go_wp2
      go_ret
      exact ⟨rfl, below_trans' BW BB4⟩
    | true =>
      by_cases h0 : ¬ ee = 0
      · have hb1 : (ee != 0) = true := by simpa using h0
        have hb2 : (ee == 0) = false := by simpa using h0
        clear h0
        go_wp2
        go_ret
        exact ⟨rfl, below_trans' BW BB4⟩
      replace h0 : ee = 0 := Classical.not_not.1 h0
      subst h0
      by_cases g9 : (40 : Int) < id.size
      · go_wp2
        go_ret
        exact ⟨rfl, below_trans' BW BB4⟩
      obtain ⟨hmay, hfit, hroom⟩ := H.putE_ok.1 (unhide Hee)
      have HXP : Hid (X = H.put L c) := by show _ = _; rw [← unhide HX, H.putA_ok (unhide Hee)]
      have HMX : Hid (H.may X = true) := by show _ = _; rw [unhide HXP]; exact H.may_put hmay hfit hroom
      have hmx := unhide HMX
      have hhx : H.has X c.id = true := by rw [unhide HXP]; exact H.has_put L c
      have hdx : H.delB X c.id = true := by rw [H.delB, hmx, hhx]; rfl
      obtain ⟨y, hy1, hy2, hy3⟩ := H.at_has (H.may_up hmx) hhx
      have hyc : y = c := (H.may_up hmx).one hy3 (by rw [unhide HXP]; exact H.mem_put.2 (.inl rfl)) hy1
      rw [hyc] at hy2
      obtain ⟨kn, hkn⟩ : ∃ kn, (H.low X c.id).length = kn := ⟨_, rfl⟩
      rw [hkn] at hy2
      have hkl := (List.getElem?_eq_some_iff.1 hy2).1
      have HF : Hid (H.find X c.id = (kn : Int)) := by show _ = _; rw [H.find_pos hdx, hkn]
      have HAT := hide hy2
      have HDX := hide hdx
      have HMAY := hide hmay
      have hxu : X.length ≤ 1100 := (H.may_iff.1 hmx).1
      have hl1 : X.length * 48 ≤ 140737488351232 := by omega
      have hl2 : ∀ x ∈ X, x.w.length * 16 ≤ 140737488351232 := fun x hx => by have := (H.may_iff.1 hmx).2.1 x hx; simp only [S.fits, Bool.and_eq_true, decide_eq_true_eq] at this; omega
      have HL1 := hide hl1
      have HL2 := hide hl2
      clear hmay hfit hroom hmx hhx hdx hy1 hy2 hy3 hyc y hkn hl1 hl2
      have CC5 := find13_any _ X c.id w4 C1
      rw [unhide HF] at CC5
      go_wp2_with fail
      refine CC5.mono ?_
      rintro e w5 ⟨rfl, B5⟩
      have BB5 := below_trans' BB4 B5
      replace HL := HL.below B5
      replace HG := HG.below B5
      replace x0 := cell_keep x0 B5
      replace x1 := cell_keep x1 B5
      replace x2 := cell_keep x2 B5
      replace C1 := C1.below B5
      clear CC5 B5
      have p1 : (kn : Int) < (X.length : Int) := by omega
      have p2 : ¬ (kn : Int) < 0 := by omega
      obtain ⟨a', c', hv', -, -, -, ho⟩ := C1.open
      simp only [Value.slice.injEq] at hv'
      obtain ⟨rfl, -, rfl⟩ := hv'
      obtain ⟨bp, op, rfl, -, hcp⟩ := ho (by omega)
      obtain ⟨wap, wcp, ep0, ep1, ep2, Gp⟩ := hcp kn c (unhide HAT)
      clear ho hcp
      have gp0 : ∀ w', Below w5.heap.size w5 w' → w'.cell? ⟨bp, op + kn * 3, none⟩ = some (.string c.id) := fun w' hw' => cell_keep ep0 hw'
      have gp1 : ∀ w', Below w5.heap.size w5 w' → w'.cell? ⟨bp, op + kn * 3 + 1, none⟩ = some (.int .i64 c.key) := fun w' hw' => cell_keep ep1 hw'
      have gp2 : ∀ w', Below w5.heap.size w5 w' → w'.cell? ⟨bp, op + kn * 3 + 2, none⟩ = some (.slice wap c.w.length wcp) := fun w' hw' => cell_keep ep2 hw'
      clear ep0 ep1 ep2
      have gx0 : ∀ w', Below w5.heap.size w5 w' → w'.cell? ⟨w.heap.size, 0, none⟩ = some (.string c.id) := fun w' hw' => cell_keep x0 hw'
      have gx1 : ∀ w', Below w5.heap.size w5 w' → w'.cell? ⟨w.heap.size, 1, none⟩ = some (.int .i64 c.key) := fun w' hw' => cell_keep x1 hw'
      have gx2 : ∀ w', Below w5.heap.size w5 w' → w'.cell? ⟨w.heap.size, 2, none⟩ = some (.slice wa c.w.length wc) := fun w' hw' => cell_keep x2 hw'
      go_wp2
      refine region_below (by kernel_rfl) (by kernel_rfl) ?_
      repeat
        (first
          | go_big_quiet_skip
          | (go_big_quiet_want; go_big_quiet_op
             first
               | go_big_quiet_on
               | (apply Exists.intro
                  refine ⟨fun w' hw' => ?_, ?_⟩
                  · first
                   | exact rfl
                   | (rw [gp0 w' hw']; dsimp only [Result.andThen]; rw [gp1 w' hw']; dsimp only [Result.andThen]; rw [gp2 w' hw']; exact ⟨rfl, rfl⟩)
                   | (rw [gx0 w' hw']; dsimp only [Result.andThen]; rw [gx1 w' hw']; dsimp only [Result.andThen]; rw [gx2 w' hw']; exact ⟨rfl, rfl⟩)
                   | (go_at_call 24; exact (samecG_any c c _ _ _ _ _ (Gp.below hw') (HG.below hw') true (S.sameC_refl c)).mono fun e w'' ⟨h1, h2⟩ => ⟨h1, below_trans' hw' h2⟩)
                  go_big_quiet_on)))
      refine wpQuiet_nil ?_
      intro w9 hb9
      have BBq := below_trans' BB5 hb9
      replace C1 := C1.below hb9
      replace HL := HL.below hb9
      replace HG := HG.below hb9
      replace x0 := cell_keep x0 hb9
      replace x1 := cell_keep x1 hb9
      replace x2 := cell_keep x2 hb9
      clear gp0 gp1 gp2 gx0 gx1 gx2 Gp hb9 BB5
      obtain ⟨wq, hwq⟩ : ∃ wq, wq = w9 := ⟨_, rfl⟩
      rw [← hwq] at C1 HL HG x0 x1 x2 BBq ⊢
      clear hwq
      obtain ⟨Y, hY⟩ : ∃ Y, H.delA X c.id = Y := ⟨_, rfl⟩
      have HY := hide hY
      clear hY
      have CC21 := del13_any _ X c.id wq C1 (unhide HL1) (unhide HL2)
      unfold DelEnd13 at CC21
      rw [unhide HDX, unhide HY] at CC21
      go_wp2_with fail
      refine CC21.mono ?_
      rintro e w21 ⟨v3, rfl, C3, B21⟩
      have BB21 := below_trans' BBq B21
      replace HL := HL.below B21
      replace HG := HG.below B21
      replace x0 := cell_keep x0 B21
      replace x1 := cell_keep x1 B21
      replace x2 := cell_keep x2 B21
      replace C1 := C1.below B21
      clear CC21 B21
      obtain ⟨a3, n3, rfl⟩ := C3.lens13 rfl
      have HYP : Hid (Y = H.del L c.id) := by show _ = _; rw [← unhide HY, H.delA, if_pos (unhide HDX), unhide HXP, H.del_put (H.may_up (unhide HMAY))]
      have HMY : Hid (H.may Y = true) := by show _ = _; rw [unhide HYP]; exact H.may_del (unhide HMAY) _
      have HFY : Hid (H.find Y c.id = -1) := H.find_neg (by rw [H.delB, unhide HYP, H.has_del]; simp)
      have hyl : Y.length = X.length - 1 := by rw [← unhide HY, H.delA, if_pos (unhide HDX)]; have := unhide HDX; rw [H.delB, Bool.and_eq_true] at this; exact H.del_len (H.may_up (unhide HMX)) this.2
      have q3 : ((Y.length : Int) != (X.length : Int) - 1) = false := by simp; omega
      have hyl2 : Y.length ≤ X.length := by omega
      clear hyl
      have CC22 := find13_any _ Y c.id w21 C3
      rw [unhide HFY] at CC22
      go_wp2_with fail
      refine CC22.mono ?_
      rintro e w22 ⟨rfl, B22⟩
      have BB22 := below_trans' BB21 B22
      replace HL := HL.below B22
      replace HG := HG.below B22
      replace x0 := cell_keep x0 B22
      replace x1 := cell_keep x1 B22
      replace x2 := cell_keep x2 B22
      replace C1 := C1.below B22
      replace C3 := C3.below B22
      clear CC22 B22
      by_cases hid : id = c.id
      · have he : (id.toList == c.id.toList) = true := by rw [hid]; simp
        clear hid
        go_wp2
        go_ret
        exact ⟨rfl, below_trans' BW BB22⟩
      have he : (id.toList == c.id.toList) = false := by rw [K.eq_to]; simpa using hid
      have HID := hide hid
      clear hid
      obtain ⟨dd, hdd⟩ : ∃ dd, H.delB L id = dd := ⟨_, rfl⟩
      have Hdd := hide hdd
      clear hdd
      have HDY : Hid (H.delB Y id = dd) := by show _ = _; rw [← unhide Hdd, H.delB, H.delB, unhide HMY, unhide HMAY, unhide HYP, H.has_del_ne (unhide HID)]
      cases dd with
      | false =>
        have CC23 := find13_any (.slice a L.length cap) L id w22 HL
        rw [H.find_neg (unhide Hdd)] at CC23
        go_wp2_with fail
        refine CC23.mono ?_
        rintro e w23 ⟨rfl, B23⟩
        have BB23 := below_trans' BB22 B23
        replace HL := HL.below B23
        replace HG := HG.below B23
        replace x0 := cell_keep x0 B23
        replace x1 := cell_keep x1 B23
        replace x2 := cell_keep x2 B23
        replace C1 := C1.below B23
        replace C3 := C3.below B23
        clear CC23 B23
        have CC24 := find13_any _ Y id w23 C3
        rw [H.find_neg (unhide HDY)] at CC24
        go_wp2_with fail
        refine CC24.mono ?_
        rintro e w24 ⟨rfl, B24⟩
        have BB24 := below_trans' BB23 B24
        replace HL := HL.below B24
        replace HG := HG.below B24
        replace x0 := cell_keep x0 B24
        replace x1 := cell_keep x1 B24
        replace x2 := cell_keep x2 B24
        replace C1 := C1.below B24
        replace C3 := C3.below B24
        clear CC24 B24
        clear C1 C3 HL HG x0 x1 x2
        go_wp2
        go_ret
        exact ⟨rfl, below_trans' BW BB24⟩
      | true =>
        obtain ⟨-, hh1⟩ := (Bool.and_eq_true ..).mp (unhide Hdd : (H.may L && H.has L id) = true)
        obtain ⟨-, hh2⟩ := (Bool.and_eq_true ..).mp (unhide HDY : (H.may Y && H.has Y id) = true)
        obtain ⟨y1, -, hy1, -⟩ := H.at_has (H.may_up (unhide HMAY)) hh1
        obtain ⟨y2, -, hy2, -⟩ := H.at_has (H.may_up (unhide HMY)) hh2
        have hyy : y1 = y2 := H.found_same (H.may_up (unhide HMAY)) (unhide HID) hy1 hh1 (by have := hy2; rw [unhide HYP] at this; exact this)
        subst hyy
        have F1 := H.find_pos (unhide Hdd)
        have F2 := H.find_pos (unhide HDY)
        obtain ⟨k1, hk1⟩ : ∃ k1, (H.low L id).length = k1 := ⟨_, rfl⟩
        obtain ⟨k2, hk2⟩ : ∃ k2, (H.low Y id).length = k2 := ⟨_, rfl⟩
        rw [hk1] at F1 hy1
        rw [hk2] at F2 hy2
        have hl1 := (List.getElem?_eq_some_iff.1 hy1).1
        have hl2 := (List.getElem?_eq_some_iff.1 hy2).1
        have HY1 := hide hy1
        have HY2 := hide hy2
        have HF1 := hide F1
        have HF2 := hide F2
        clear hh1 hh2 hy1 hy2 F1 F2 hk1 hk2
        have CC23 := find13_any (.slice a L.length cap) L id w22 HL
        rw [unhide HF1] at CC23
        go_wp2_with fail
        refine CC23.mono ?_
        rintro e w23 ⟨rfl, B23⟩
        have BB23 := below_trans' BB22 B23
        replace HL := HL.below B23
        replace HG := HG.below B23
        replace x0 := cell_keep x0 B23
        replace x1 := cell_keep x1 B23
        replace x2 := cell_keep x2 B23
        replace C1 := C1.below B23
        replace C3 := C3.below B23
        clear CC23 B23
        have CC24 := find13_any _ Y id w23 C3
        rw [unhide HF2] at CC24
        go_wp2_with fail
        refine CC24.mono ?_
        rintro e w24 ⟨rfl, B24⟩
        have BB24 := below_trans' BB23 B24
        replace HL := HL.below B24
        replace HG := HG.below B24
        replace x0 := cell_keep x0 B24
        replace x1 := cell_keep x1 B24
        replace x2 := cell_keep x2 B24
        replace C1 := C1.below B24
        replace C3 := C3.below B24
        clear CC24 B24
        have p3 : (k1 : Int) < (L.length : Int) := by omega
        have p4 : ¬ (k1 : Int) < 0 := by omega
        have p5 : (k2 : Int) < (Y.length : Int) := by omega
        have p6 : ¬ (k2 : Int) < 0 := by omega
        obtain ⟨a', c', hv', -, -, -, ho⟩ := HL.open
        simp only [Value.slice.injEq] at hv'
        obtain ⟨rfl, -, rfl⟩ := hv'
        obtain ⟨bs, os, rfl, -, hcs⟩ := ho (by omega)
        obtain ⟨was, wcs, es0, es1, es2, Gs⟩ := hcs k1 y1 (unhide HY1)
        clear ho hcs
        have gs0 : ∀ w', Below w24.heap.size w24 w' → w'.cell? ⟨bs, os + k1 * 3, none⟩ = some (.string y1.id) := fun w' hw' => cell_keep es0 hw'
        have gs1 : ∀ w', Below w24.heap.size w24 w' → w'.cell? ⟨bs, os + k1 * 3 + 1, none⟩ = some (.int .i64 y1.key) := fun w' hw' => cell_keep es1 hw'
        have gs2 : ∀ w', Below w24.heap.size w24 w' → w'.cell? ⟨bs, os + k1 * 3 + 2, none⟩ = some (.slice was y1.w.length wcs) := fun w' hw' => cell_keep es2 hw'
        clear es0 es1 es2
        obtain ⟨a', c', hv', -, -, -, ho⟩ := C3.open
        simp only [Value.slice.injEq] at hv'
        obtain ⟨rfl, -, rfl⟩ := hv'
        obtain ⟨bt, ot, rfl, -, hct⟩ := ho (by omega)
        obtain ⟨wat, wct, et0, et1, et2, Gt⟩ := hct k2 y1 (unhide HY2)
        clear ho hct
        have gt0 : ∀ w', Below w24.heap.size w24 w' → w'.cell? ⟨bt, ot + k2 * 3, none⟩ = some (.string y1.id) := fun w' hw' => cell_keep et0 hw'
        have gt1 : ∀ w', Below w24.heap.size w24 w' → w'.cell? ⟨bt, ot + k2 * 3 + 1, none⟩ = some (.int .i64 y1.key) := fun w' hw' => cell_keep et1 hw'
        have gt2 : ∀ w', Below w24.heap.size w24 w' → w'.cell? ⟨bt, ot + k2 * 3 + 2, none⟩ = some (.slice wat y1.w.length wct) := fun w' hw' => cell_keep et2 hw'
        clear et0 et1 et2
        clear C1 C3 HL HG x0 x1 x2
        go_wp2
        refine region_below (by kernel_rfl) (by kernel_rfl) ?_
        repeat
          (first
            | go_big_quiet_skip
            | (go_big_quiet_want; go_big_quiet_op
               first
                 | go_big_quiet_on
                 | (apply Exists.intro
                    refine ⟨fun w' hw' => ?_, ?_⟩
                    · first
                     | exact rfl
                     | (rw [gs0 w' hw']; dsimp only [Result.andThen]; rw [gs1 w' hw']; dsimp only [Result.andThen]; rw [gs2 w' hw']; exact ⟨rfl, rfl⟩)
                     | (rw [gt0 w' hw']; dsimp only [Result.andThen]; rw [gt1 w' hw']; dsimp only [Result.andThen]; rw [gt2 w' hw']; exact ⟨rfl, rfl⟩)
                     | (go_at_call 24; exact (samecG_any y1 y1 _ _ _ _ _ (Gs.below hw') (Gt.below hw') true (S.sameC_refl y1)).mono fun e w'' ⟨h1, h2⟩ => ⟨h1, below_trans' hw' h2⟩)
                    go_big_quiet_on)))
        refine wpQuiet_nil ?_
        intro w9 hb9
        have BBz := below_trans' BB24 hb9
        clear gs0 gs1 gs2 gt0 gt1 gt2 Gs Gt
        go_wp2
        go_ret
        exact ⟨rfl, below_trans' BW BBz⟩
end Go.Proofs.Ytefnkbgkcjhkoaa
