/-
  The walk of the law of shelves that stay so, and of what is refused.
-/
import Derived.Test.YtefnkbgkcjhkoaaQ19
import Derived.BigQuiet
namespace Go.Proofs.Ytefnkbgkcjhkoaa
set_option maxRecDepth 100000
open Go.RowKit

set_option maxRecDepth 100000 in
set_option maxHeartbeats 8000000 in
theorem shelfStays_walk (v : Value) (L : List Cd) (c : Cd) (wa : Option Addr) (wc : Nat) (id : ByteArray) (w : World) (h : Cs w v L) (hG : Gl .string w (.slice wa c.w.length wc) c.w) :
    Calls Try.prog 8 #[v, .agg #[.string c.id, .int .i64 c.key, .slice wa c.w.length wc], .string id] w fun e w' => e = .returned (.bool true) ∧ Below w.heap.size w w' := by
  obtain ⟨W, hW⟩ : ∃ W, W = w.alloc (.cells #[.string c.id, .int .i64 c.key, .slice wa c.w.length wc] 30) := ⟨_, rfl⟩
  have BW : Below w.heap.size w W := by rw [hW]; exact below_alloc _ _
  have HL := h.below BW
  have HG := hG.below BW
  have x0 : W.cell? ⟨w.heap.size, 0, none⟩ = some (.string c.id) := by rw [hW]; exact box_cell (heap_alloc_new w _) rfl
  have x1 : W.cell? ⟨w.heap.size, 1, none⟩ = some (.int .i64 c.key) := by rw [hW]; exact box_cell (heap_alloc_new w _) rfl
  have x2 : W.cell? ⟨w.heap.size, 2, none⟩ = some (.slice wa c.w.length wc) := by rw [hW]; exact box_cell (heap_alloc_new w _) rfl
  obtain ⟨a, cap, rfl, -⟩ := h.open
  have HW := hide hW
  clear hW h hG
  obtain ⟨m, hm⟩ : ∃ m, H.may L = m := ⟨_, rfl⟩
  have Hm := hide hm
  clear hm
  obtain ⟨ee, hee⟩ : ∃ ee, H.putE L c = ee := ⟨_, rfl⟩
  have Hee := hide hee
  clear hee
  obtain ⟨X, hX⟩ : ∃ X, H.putA L c = X := ⟨_, rfl⟩
  have HX := hide hX
  clear hX
  obtain ⟨dd, hdd⟩ : ∃ dd, H.delB L id = dd := ⟨_, rfl⟩
  have Hdd := hide hdd
  clear hdd
  obtain ⟨Y, hY⟩ : ∃ Y, H.delA L id = Y := ⟨_, rfl⟩
  have HY := hide hY
  clear hY
  go_enter Try.func8, Try.ntmps8
  have CC1 := awake13_any W
  go_wp2_with fail
  rw [← unhide HW]
  refine CC1.mono ?_
  rintro e w1 ⟨rfl, B1⟩
  have BB1 := B1
  replace HL := HL.below B1
  replace HG := HG.below B1
  replace x0 := cell_keep x0 B1
  replace x1 := cell_keep x1 B1
  replace x2 := cell_keep x2 B1
  clear CC1 B1
  have CC2 := few13_any (.slice a L.length cap) L w1 HL
  go_wp2_with fail
  refine CC2.mono ?_
  rintro e w2 ⟨r1, rfl, hr1, B2⟩
  have BB2 := below_trans' BB1 B2
  replace HL := HL.below B2
  replace HG := HG.below B2
  replace x0 := cell_keep x0 B2
  replace x1 := cell_keep x1 B2
  replace x2 := cell_keep x2 B2
  clear CC2 B2
  have Hr1 := hide hr1
  clear hr1
  have CC3 := one13_any c wa wc w2 HG
  go_wp2_with fail
  refine CC3.mono ?_
  rintro e w3 ⟨r2, rfl, hr2, B3⟩
  have BB3 := below_trans' BB2 B3
  replace HL := HL.below B3
  replace HG := HG.below B3
  replace x0 := cell_keep x0 B3
  replace x1 := cell_keep x1 B3
  replace x2 := cell_keep x2 B3
  clear CC3 B3
  have Hr2 := hide hr2
  clear hr2
  cases r1 with
  | false =>
    go_wp2
    go_ret
    exact ⟨rfl, below_trans' BW BB3⟩
  | true =>
    cases r2 with
    | false =>
      go_wp2
      go_ret
      exact ⟨rfl, below_trans' BW BB3⟩
    | true =>
      by_cases g9 : (40 : Int) < id.size
      · go_wp2
        go_ret
        exact ⟨rfl, below_trans' BW BB3⟩
      have hll : L.length * 48 ≤ 140737488351232 := by have := (unhide Hr1 rfl).1; omega
      have hws : ∀ x ∈ L, x.w.length * 16 ≤ 140737488351232 := fun x hx => by have := ((unhide Hr1 rfl).2 x hx).2; omega
      have HLL := hide hll
      have HWS := hide hws
      clear hll hws
      have CC4 := put13_any (.slice a L.length cap) L c wa wc w3 HL HG (unhide HLL) (unhide HWS)
      unfold PutEnd13 at CC4
      rw [unhide Hee, unhide HX] at CC4
      go_wp2_with fail
      refine CC4.mono ?_
      rintro e w4 ⟨v1, rfl, C1, B4⟩
      have BB4 := below_trans' BB3 B4
      replace HL := HL.below B4
      replace HG := HG.below B4
      replace x0 := cell_keep x0 B4
      replace x1 := cell_keep x1 B4
      replace x2 := cell_keep x2 B4
      clear CC4 B4
      obtain ⟨a1, n1, rfl⟩ := C1.lens13 rfl
      have CC5 := del13_any (.slice a L.length cap) L id w4 HL (unhide HLL) (unhide HWS)
      unfold DelEnd13 at CC5
      rw [unhide Hdd, unhide HY] at CC5
      go_wp2_with fail
      refine CC5.mono ?_
      rintro e w5 ⟨v3, rfl, C3, B5⟩
      have BB5 := below_trans' BB4 B5
      replace HL := HL.below B5
      replace HG := HG.below B5
      replace x0 := cell_keep x0 B5
      replace x1 := cell_keep x1 B5
      replace x2 := cell_keep x2 B5
      replace C1 := C1.below B5
      clear CC5 B5
      obtain ⟨a3, n3, rfl⟩ := C3.lens13 rfl
      by_cases h0 : ee = 0
      · subst h0
        have hm1 : m = true := by rw [← unhide Hm]; exact (H.putE_ok.1 (unhide Hee)).1
        subst hm1
        cases dd with
        | false =>
          have HYL : Hid (Y = L) := by show _ = _; rw [← unhide HY, H.delA, if_neg (by rw [unhide Hdd]; decide)]
          have CC6 := same13_any _ (.slice a L.length cap) Y L w5 C3 HL
          go_wp2_with fail
          refine CC6.mono ?_
          rintro e w6 ⟨s2, rfl, hs2, B6⟩
          have BB6 := below_trans' BB5 B6
          replace HL := HL.below B6
          replace HG := HG.below B6
          replace x0 := cell_keep x0 B6
          replace x1 := cell_keep x1 B6
          replace x2 := cell_keep x2 B6
          replace C1 := C1.below B6
          replace C3 := C3.below B6
          clear CC6 B6
          obtain rfl : s2 = true := hs2.2 (unhide HYL)
          clear hs2
          have CC7 := may13_any (.slice a L.length cap) L w6 HL
          rw [unhide Hm] at CC7
          go_wp2_with fail
          refine CC7.mono ?_
          rintro e w7 ⟨rfl, B7⟩
          have BB7 := below_trans' BB6 B7
          replace HL := HL.below B7
          replace HG := HG.below B7
          replace x0 := cell_keep x0 B7
          replace x1 := cell_keep x1 B7
          replace x2 := cell_keep x2 B7
          replace C1 := C1.below B7
          replace C3 := C3.below B7
          clear CC7 B7
          have CC8 := may13_any (.slice a L.length cap) L w7 HL
          rw [unhide Hm] at CC8
          go_wp2_with fail
          refine CC8.mono ?_
          rintro e w8 ⟨rfl, B8⟩
          have BB8 := below_trans' BB7 B8
          replace HL := HL.below B8
          replace HG := HG.below B8
          replace x0 := cell_keep x0 B8
          replace x1 := cell_keep x1 B8
          replace x2 := cell_keep x2 B8
          replace C1 := C1.below B8
          replace C3 := C3.below B8
          clear CC8 B8
          have CC9 := may13_any _ X w8 C1
          rw [show H.may X = true by rw [← unhide HX]; exact H.may_putA (unhide Hm)] at CC9
          go_wp2_with fail
          refine CC9.mono ?_
          rintro e w9 ⟨rfl, B9⟩
          have BB9 := below_trans' BB8 B9
          replace HL := HL.below B9
          replace HG := HG.below B9
          replace x0 := cell_keep x0 B9
          replace x1 := cell_keep x1 B9
          replace x2 := cell_keep x2 B9
          replace C1 := C1.below B9
          replace C3 := C3.below B9
          clear CC9 B9
          have CC10 := may13_any _ Y w9 C3
          rw [show H.may Y = true by rw [← unhide HY]; exact H.may_delA (unhide Hm)] at CC10
          go_wp2_with fail
          refine CC10.mono ?_
          rintro e w10 ⟨rfl, B10⟩
          have BB10 := below_trans' BB9 B10
          replace HL := HL.below B10
          replace HG := HG.below B10
          replace x0 := cell_keep x0 B10
          replace x1 := cell_keep x1 B10
          replace x2 := cell_keep x2 B10
          replace C1 := C1.below B10
          replace C3 := C3.below B10
          clear CC10 B10
          have hle : L.length ≤ X.length := by rw [← unhide HX, H.putA_ok (unhide Hee)]; exact (H.put_le (H.may_up (unhide Hm)) c).1
          have hle2 : (L.length : Int) ≤ (X.length : Int) := by omega
          clear C1 C3 HL HG x0 x1 x2
          go_wp2
          go_ret
          exact ⟨rfl, below_trans' BW BB10⟩
        | true =>
          have CC6 := may13_any (.slice a L.length cap) L w5 HL
          rw [unhide Hm] at CC6
          go_wp2_with fail
          refine CC6.mono ?_
          rintro e w6 ⟨rfl, B6⟩
          have BB6 := below_trans' BB5 B6
          replace HL := HL.below B6
          replace HG := HG.below B6
          replace x0 := cell_keep x0 B6
          replace x1 := cell_keep x1 B6
          replace x2 := cell_keep x2 B6
          replace C1 := C1.below B6
          replace C3 := C3.below B6
          clear CC6 B6
          have CC7 := may13_any (.slice a L.length cap) L w6 HL
          rw [unhide Hm] at CC7
          go_wp2_with fail
          refine CC7.mono ?_
          rintro e w7 ⟨rfl, B7⟩
          have BB7 := below_trans' BB6 B7
          replace HL := HL.below B7
          replace HG := HG.below B7
          replace x0 := cell_keep x0 B7
          replace x1 := cell_keep x1 B7
          replace x2 := cell_keep x2 B7
          replace C1 := C1.below B7
          replace C3 := C3.below B7
          clear CC7 B7
          have CC8 := may13_any _ X w7 C1
          rw [show H.may X = true by rw [← unhide HX]; exact H.may_putA (unhide Hm)] at CC8
          go_wp2_with fail
          refine CC8.mono ?_
          rintro e w8 ⟨rfl, B8⟩
          have BB8 := below_trans' BB7 B8
          replace HL := HL.below B8
          replace HG := HG.below B8
          replace x0 := cell_keep x0 B8
          replace x1 := cell_keep x1 B8
          replace x2 := cell_keep x2 B8
          replace C1 := C1.below B8
          replace C3 := C3.below B8
          clear CC8 B8
          have CC9 := may13_any _ Y w8 C3
          rw [show H.may Y = true by rw [← unhide HY]; exact H.may_delA (unhide Hm)] at CC9
          go_wp2_with fail
          refine CC9.mono ?_
          rintro e w9 ⟨rfl, B9⟩
          have BB9 := below_trans' BB8 B9
          replace HL := HL.below B9
          replace HG := HG.below B9
          replace x0 := cell_keep x0 B9
          replace x1 := cell_keep x1 B9
          replace x2 := cell_keep x2 B9
          replace C1 := C1.below B9
          replace C3 := C3.below B9
          clear CC9 B9
          have hle : L.length ≤ X.length := by rw [← unhide HX, H.putA_ok (unhide Hee)]; exact (H.put_le (H.may_up (unhide Hm)) c).1
          have hle2 : (L.length : Int) ≤ (X.length : Int) := by omega
          clear C1 C3 HL HG x0 x1 x2
          go_wp2
          go_ret
          exact ⟨rfl, below_trans' BW BB9⟩
      · have HN0 := hide h0
        have hb1 : (ee != 0) = true := by simpa using h0
        have hb2 : (ee == 0) = false := by simpa using h0
        clear h0
        cases m with
        | false =>
          have hd1 : dd = false := by rw [← unhide Hdd, H.delB, unhide Hm]; rfl
          subst hd1
          have HXL : Hid (X = L) := by show _ = _; rw [← unhide HX, H.putA_no (by rw [unhide Hee]; exact unhide HN0)]
          have CC6 := same13_any _ (.slice a L.length cap) X L w5 C1 HL
          go_wp2_with fail
          refine CC6.mono ?_
          rintro e w6 ⟨s1, rfl, hs1, B6⟩
          have BB6 := below_trans' BB5 B6
          replace HL := HL.below B6
          replace HG := HG.below B6
          replace x0 := cell_keep x0 B6
          replace x1 := cell_keep x1 B6
          replace x2 := cell_keep x2 B6
          replace C1 := C1.below B6
          replace C3 := C3.below B6
          clear CC6 B6
          obtain rfl : s1 = true := hs1.2 (unhide HXL)
          clear hs1
          have HYL : Hid (Y = L) := by show _ = _; rw [← unhide HY, H.delA, if_neg (by rw [unhide Hdd]; decide)]
          have CC7 := same13_any _ (.slice a L.length cap) Y L w6 C3 HL
          go_wp2_with fail
          refine CC7.mono ?_
          rintro e w7 ⟨s2, rfl, hs2, B7⟩
          have BB7 := below_trans' BB6 B7
          replace HL := HL.below B7
          replace HG := HG.below B7
          replace x0 := cell_keep x0 B7
          replace x1 := cell_keep x1 B7
          replace x2 := cell_keep x2 B7
          replace C1 := C1.below B7
          replace C3 := C3.below B7
          clear CC7 B7
          obtain rfl : s2 = true := hs2.2 (unhide HYL)
          clear hs2
          have CC8 := may13_any (.slice a L.length cap) L w7 HL
          rw [unhide Hm] at CC8
          go_wp2_with fail
          refine CC8.mono ?_
          rintro e w8 ⟨rfl, B8⟩
          have BB8 := below_trans' BB7 B8
          replace HL := HL.below B8
          replace HG := HG.below B8
          replace x0 := cell_keep x0 B8
          replace x1 := cell_keep x1 B8
          replace x2 := cell_keep x2 B8
          replace C1 := C1.below B8
          replace C3 := C3.below B8
          clear CC8 B8
          have he1 : ee = 1 := by rw [← unhide Hee]; exact (H.put_arg (.inl (unhide Hm))).1
          subst he1
          clear C1 C3 HL HG x0 x1 x2
          go_wp2
          go_ret
          exact ⟨rfl, below_trans' BW BB8⟩
        | true =>
          cases dd with
          | false =>
            have HXL : Hid (X = L) := by show _ = _; rw [← unhide HX, H.putA_no (by rw [unhide Hee]; exact unhide HN0)]
            have CC6 := same13_any _ (.slice a L.length cap) X L w5 C1 HL
            go_wp2_with fail
            refine CC6.mono ?_
            rintro e w6 ⟨s1, rfl, hs1, B6⟩
            have BB6 := below_trans' BB5 B6
            replace HL := HL.below B6
            replace HG := HG.below B6
            replace x0 := cell_keep x0 B6
            replace x1 := cell_keep x1 B6
            replace x2 := cell_keep x2 B6
            replace C1 := C1.below B6
            replace C3 := C3.below B6
            clear CC6 B6
            obtain rfl : s1 = true := hs1.2 (unhide HXL)
            clear hs1
            have HYL : Hid (Y = L) := by show _ = _; rw [← unhide HY, H.delA, if_neg (by rw [unhide Hdd]; decide)]
            have CC7 := same13_any _ (.slice a L.length cap) Y L w6 C3 HL
            go_wp2_with fail
            refine CC7.mono ?_
            rintro e w7 ⟨s2, rfl, hs2, B7⟩
            have BB7 := below_trans' BB6 B7
            replace HL := HL.below B7
            replace HG := HG.below B7
            replace x0 := cell_keep x0 B7
            replace x1 := cell_keep x1 B7
            replace x2 := cell_keep x2 B7
            replace C1 := C1.below B7
            replace C3 := C3.below B7
            clear CC7 B7
            obtain rfl : s2 = true := hs2.2 (unhide HYL)
            clear hs2
            have CC8 := may13_any (.slice a L.length cap) L w7 HL
            rw [unhide Hm] at CC8
            go_wp2_with fail
            refine CC8.mono ?_
            rintro e w8 ⟨rfl, B8⟩
            have BB8 := below_trans' BB7 B8
            replace HL := HL.below B8
            replace HG := HG.below B8
            replace x0 := cell_keep x0 B8
            replace x1 := cell_keep x1 B8
            replace x2 := cell_keep x2 B8
            replace C1 := C1.below B8
            replace C3 := C3.below B8
            clear CC8 B8
            have CC9 := may13_any (.slice a L.length cap) L w8 HL
            rw [unhide Hm] at CC9
            go_wp2_with fail
            refine CC9.mono ?_
            rintro e w9 ⟨rfl, B9⟩
            have BB9 := below_trans' BB8 B9
            replace HL := HL.below B9
            replace HG := HG.below B9
            replace x0 := cell_keep x0 B9
            replace x1 := cell_keep x1 B9
            replace x2 := cell_keep x2 B9
            replace C1 := C1.below B9
            replace C3 := C3.below B9
            clear CC9 B9
            have CC10 := may13_any _ X w9 C1
            rw [show H.may X = true by rw [← unhide HX]; exact H.may_putA (unhide Hm)] at CC10
            go_wp2_with fail
            refine CC10.mono ?_
            rintro e w10 ⟨rfl, B10⟩
            have BB10 := below_trans' BB9 B10
            replace HL := HL.below B10
            replace HG := HG.below B10
            replace x0 := cell_keep x0 B10
            replace x1 := cell_keep x1 B10
            replace x2 := cell_keep x2 B10
            replace C1 := C1.below B10
            replace C3 := C3.below B10
            clear CC10 B10
            have CC11 := may13_any _ Y w10 C3
            rw [show H.may Y = true by rw [← unhide HY]; exact H.may_delA (unhide Hm)] at CC11
            go_wp2_with fail
            refine CC11.mono ?_
            rintro e w11 ⟨rfl, B11⟩
            have BB11 := below_trans' BB10 B11
            replace HL := HL.below B11
            replace HG := HG.below B11
            replace x0 := cell_keep x0 B11
            replace x1 := cell_keep x1 B11
            replace x2 := cell_keep x2 B11
            replace C1 := C1.below B11
            replace C3 := C3.below B11
            clear CC11 B11
            clear C1 C3 HL HG x0 x1 x2
            go_wp2
            go_ret
            exact ⟨rfl, below_trans' BW BB11⟩
          | true =>
            have HXL : Hid (X = L) := by show _ = _; rw [← unhide HX, H.putA_no (by rw [unhide Hee]; exact unhide HN0)]
            have CC6 := same13_any _ (.slice a L.length cap) X L w5 C1 HL
            go_wp2_with fail
            refine CC6.mono ?_
            rintro e w6 ⟨s1, rfl, hs1, B6⟩
            have BB6 := below_trans' BB5 B6
            replace HL := HL.below B6
            replace HG := HG.below B6
            replace x0 := cell_keep x0 B6
            replace x1 := cell_keep x1 B6
            replace x2 := cell_keep x2 B6
            replace C1 := C1.below B6
            replace C3 := C3.below B6
            clear CC6 B6
            obtain rfl : s1 = true := hs1.2 (unhide HXL)
            clear hs1
            have CC7 := may13_any (.slice a L.length cap) L w6 HL
            rw [unhide Hm] at CC7
            go_wp2_with fail
            refine CC7.mono ?_
            rintro e w7 ⟨rfl, B7⟩
            have BB7 := below_trans' BB6 B7
            replace HL := HL.below B7
            replace HG := HG.below B7
            replace x0 := cell_keep x0 B7
            replace x1 := cell_keep x1 B7
            replace x2 := cell_keep x2 B7
            replace C1 := C1.below B7
            replace C3 := C3.below B7
            clear CC7 B7
            have CC8 := may13_any (.slice a L.length cap) L w7 HL
            rw [unhide Hm] at CC8
            go_wp2_with fail
            refine CC8.mono ?_
            rintro e w8 ⟨rfl, B8⟩
            have BB8 := below_trans' BB7 B8
            replace HL := HL.below B8
            replace HG := HG.below B8
            replace x0 := cell_keep x0 B8
            replace x1 := cell_keep x1 B8
            replace x2 := cell_keep x2 B8
            replace C1 := C1.below B8
            replace C3 := C3.below B8
            clear CC8 B8
            have CC9 := may13_any _ X w8 C1
            rw [show H.may X = true by rw [← unhide HX]; exact H.may_putA (unhide Hm)] at CC9
            go_wp2_with fail
            refine CC9.mono ?_
            rintro e w9 ⟨rfl, B9⟩
            have BB9 := below_trans' BB8 B9
            replace HL := HL.below B9
            replace HG := HG.below B9
            replace x0 := cell_keep x0 B9
            replace x1 := cell_keep x1 B9
            replace x2 := cell_keep x2 B9
            replace C1 := C1.below B9
            replace C3 := C3.below B9
            clear CC9 B9
            have CC10 := may13_any _ Y w9 C3
            rw [show H.may Y = true by rw [← unhide HY]; exact H.may_delA (unhide Hm)] at CC10
            go_wp2_with fail
            refine CC10.mono ?_
            rintro e w10 ⟨rfl, B10⟩
            have BB10 := below_trans' BB9 B10
            replace HL := HL.below B10
            replace HG := HG.below B10
            replace x0 := cell_keep x0 B10
            replace x1 := cell_keep x1 B10
            replace x2 := cell_keep x2 B10
            replace C1 := C1.below B10
            replace C3 := C3.below B10
            clear CC10 B10
            clear C1 C3 HL HG x0 x1 x2
            go_wp2
            go_ret
            exact ⟨rfl, below_trans' BW BB10⟩
end Go.Proofs.Ytefnkbgkcjhkoaa
