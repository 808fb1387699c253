/-
  The walk of the law of what comes of Put, Del and ByKey.
-/
import Derived.Test.YtefnkbgkcjhkoaaQ19
import Derived.Test.YtefnkbgkcjhkoaaQ12
import Derived.BigQuiet
namespace Go.Proofs.Ytefnkbgkcjhkoaa
set_option maxRecDepth 100000
open Go.RowKit

set_option maxRecDepth 100000 in
set_option maxHeartbeats 8000000 in
theorem shelfDoes_walk (v : Value) (L : List Cd) (c : Cd) (wa : Option Addr) (wc : Nat) (id : ByteArray) (w : World) (h : Cs w v L) (hG : Gl .string w (.slice wa c.w.length wc) c.w) :
    Calls Try.prog 4 #[v, .agg #[.string c.id, .int .i64 c.key, .slice wa c.w.length wc], .string id] w fun e w' => e = .returned (.bool true) ∧ Below w.heap.size w w' := by
  obtain ⟨W, hW⟩ : ∃ W, W = w.alloc (.cells #[.string c.id, .int .i64 c.key, .slice wa c.w.length wc] 30) := ⟨_, rfl⟩
  have BW : Below w.heap.size w W := by rw [hW]; exact below_alloc _ _
  have HL := h.below BW
  have HG := hG.below BW
  have x0 : W.cell? ⟨w.heap.size, 0, none⟩ = some (.string c.id) := by rw [hW]; exact box_cell (heap_alloc_new w _) rfl
  have x1 : W.cell? ⟨w.heap.size, 1, none⟩ = some (.int .i64 c.key) := by rw [hW]; exact box_cell (heap_alloc_new w _) rfl
  have x2 : W.cell? ⟨w.heap.size, 2, none⟩ = some (.slice wa c.w.length wc) := by rw [hW]; exact box_cell (heap_alloc_new w _) rfl
  obtain ⟨a, cap, rfl, -⟩ := h.open
  have HW := hide hW
  clear hW h hG
  obtain ⟨ee, hee⟩ : ∃ ee, H.putE L c = ee := ⟨_, rfl⟩
  have Hee := hide hee
  clear hee
  obtain ⟨X, hX⟩ : ∃ X, H.putA L c = X := ⟨_, rfl⟩
  have HX := hide hX
  clear hX
  obtain ⟨dd, hdd⟩ : ∃ dd, H.delB L id = dd := ⟨_, rfl⟩
  have Hdd := hide hdd
  clear hdd
  obtain ⟨Y, hY⟩ : ∃ Y, H.delA L id = Y := ⟨_, rfl⟩
  have HY := hide hY
  clear hY
  obtain ⟨K, hK⟩ : ∃ K, H.keyed L = K := ⟨_, rfl⟩
  have HK := hide hK
  clear hK
  have q1 : (ee == ee) = true := by simp
  have q2 : (dd == dd) = true := by simp
  go_enter Try.func4, Try.ntmps4
  have CC1 := awake13_any W
  go_wp2_with fail
  rw [← unhide HW]
  refine CC1.mono ?_
  rintro e w1 ⟨rfl, B1⟩
  have BB1 := B1
  replace HL := HL.below B1
  replace HG := HG.below B1
  replace x0 := cell_keep x0 B1
  replace x1 := cell_keep x1 B1
  replace x2 := cell_keep x2 B1
  clear CC1 B1
  have CC2 := few13_any (.slice a L.length cap) L w1 HL
  go_wp2_with fail
  refine CC2.mono ?_
  rintro e w2 ⟨r1, rfl, hr1, B2⟩
  have BB2 := below_trans' BB1 B2
  replace HL := HL.below B2
  replace HG := HG.below B2
  replace x0 := cell_keep x0 B2
  replace x1 := cell_keep x1 B2
  replace x2 := cell_keep x2 B2
  clear CC2 B2
  have Hr1 := hide hr1
  clear hr1
  have CC3 := one13_any c wa wc w2 HG
  go_wp2_with fail
  refine CC3.mono ?_
  rintro e w3 ⟨r2, rfl, hr2, B3⟩
  have BB3 := below_trans' BB2 B3
  replace HL := HL.below B3
  replace HG := HG.below B3
  replace x0 := cell_keep x0 B3
  replace x1 := cell_keep x1 B3
  replace x2 := cell_keep x2 B3
  clear CC3 B3
  have Hr2 := hide hr2
  clear hr2
  cases r1 with
  | false =>
    go_wp2
    go_ret
    exact ⟨rfl, below_trans' BW BB3⟩
  | true =>
    cases r2 with
    | false =>
      go_wp2
      go_ret
      exact ⟨rfl, below_trans' BW BB3⟩
    | true =>
      by_cases g9 : (40 : Int) < id.size
      · go_wp2
        go_ret
        exact ⟨rfl, below_trans' BW BB3⟩
      have hll : L.length * 48 ≤ 140737488351232 := by have := (unhide Hr1 rfl).1; omega
      have hws : ∀ x ∈ L, x.w.length * 16 ≤ 140737488351232 := fun x hx => by have := ((unhide Hr1 rfl).2 x hx).2; omega
      have HLL := hide hll
      have HWS := hide hws
      clear hll hws
      have CC4 := put13_any (.slice a L.length cap) L c wa wc w3 HL HG (unhide HLL) (unhide HWS)
      unfold PutEnd13 at CC4
      rw [unhide Hee, unhide HX] at CC4
      go_wp2_with fail
      refine CC4.mono ?_
      rintro e w4 ⟨v1, rfl, C1, B4⟩
      have BB4 := below_trans' BB3 B4
      replace HL := HL.below B4
      replace HG := HG.below B4
      replace x0 := cell_keep x0 B4
      replace x1 := cell_keep x1 B4
      replace x2 := cell_keep x2 B4
      clear CC4 B4
      obtain ⟨a1, n1, rfl⟩ := C1.lens13 rfl
      have CC5 := rput13_any (.slice a L.length cap) L c wa wc w4 HL HG
      unfold PutEnd13 at CC5
      rw [unhide Hee, unhide HX] at CC5
      go_wp2_with fail
      refine CC5.mono ?_
      rintro e w5 ⟨v2, rfl, C2, B5⟩
      have BB5 := below_trans' BB4 B5
      replace HL := HL.below B5
      replace HG := HG.below B5
      replace x0 := cell_keep x0 B5
      replace x1 := cell_keep x1 B5
      replace x2 := cell_keep x2 B5
      replace C1 := C1.below B5
      clear CC5 B5
      obtain ⟨a2, n2, rfl⟩ := C2.lens13 rfl
      have CC6 := del13_any (.slice a L.length cap) L id w5 HL (unhide HLL) (unhide HWS)
      unfold DelEnd13 at CC6
      rw [unhide Hdd, unhide HY] at CC6
      go_wp2_with fail
      refine CC6.mono ?_
      rintro e w6 ⟨v3, rfl, C3, B6⟩
      have BB6 := below_trans' BB5 B6
      replace HL := HL.below B6
      replace HG := HG.below B6
      replace x0 := cell_keep x0 B6
      replace x1 := cell_keep x1 B6
      replace x2 := cell_keep x2 B6
      replace C1 := C1.below B6
      replace C2 := C2.below B6
      clear CC6 B6
      obtain ⟨a3, n3, rfl⟩ := C3.lens13 rfl
      have CC7 := rdel13_any (.slice a L.length cap) L id w6 HL
      unfold DelEnd13 at CC7
      rw [unhide Hdd, unhide HY] at CC7
      go_wp2_with fail
      refine CC7.mono ?_
      rintro e w7 ⟨v4, rfl, C4, B7⟩
      have BB7 := below_trans' BB6 B7
      replace HL := HL.below B7
      replace HG := HG.below B7
      replace x0 := cell_keep x0 B7
      replace x1 := cell_keep x1 B7
      replace x2 := cell_keep x2 B7
      replace C1 := C1.below B7
      replace C2 := C2.below B7
      replace C3 := C3.below B7
      clear CC7 B7
      obtain ⟨a4, n4, rfl⟩ := C4.lens13 rfl
      have CC8 := allSame13_any _ _ X X w7 C1 C2
      go_wp2_with fail
      refine CC8.mono ?_
      rintro e w8 ⟨s1, rfl, hs1, B8⟩
      have BB8 := below_trans' BB7 B8
      replace HL := HL.below B8
      replace HG := HG.below B8
      replace x0 := cell_keep x0 B8
      replace x1 := cell_keep x1 B8
      replace x2 := cell_keep x2 B8
      replace C1 := C1.below B8
      replace C2 := C2.below B8
      replace C3 := C3.below B8
      replace C4 := C4.below B8
      clear CC8 B8
      obtain rfl : s1 = true := hs1.2 rfl
      clear hs1
      have CC9 := allSame13_any _ _ Y Y w8 C3 C4
      go_wp2_with fail
      refine CC9.mono ?_
      rintro e w9 ⟨s2, rfl, hs2, B9⟩
      have BB9 := below_trans' BB8 B9
      replace HL := HL.below B9
      replace HG := HG.below B9
      replace x0 := cell_keep x0 B9
      replace x1 := cell_keep x1 B9
      replace x2 := cell_keep x2 B9
      replace C1 := C1.below B9
      replace C2 := C2.below B9
      replace C3 := C3.below B9
      replace C4 := C4.below B9
      clear CC9 B9
      obtain rfl : s2 = true := hs2.2 rfl
      clear hs2
      have CC10 := byKey13_any (.slice a L.length cap) L w9 HL
      rw [unhide HK] at CC10
      go_wp2_with fail
      refine CC10.mono ?_
      rintro e w10 ⟨v5, rfl, C5, B10⟩
      have BB10 := below_trans' BB9 B10
      replace HL := HL.below B10
      replace HG := HG.below B10
      replace x0 := cell_keep x0 B10
      replace x1 := cell_keep x1 B10
      replace x2 := cell_keep x2 B10
      replace C1 := C1.below B10
      replace C2 := C2.below B10
      replace C3 := C3.below B10
      replace C4 := C4.below B10
      clear CC10 B10
      obtain ⟨a5, n5, rfl⟩ := C5.lens13 rfl
      have CC11 := rbyKey13_any (.slice a L.length cap) L w10 HL
      rw [unhide HK] at CC11
      go_wp2_with fail
      refine CC11.mono ?_
      rintro e w11 ⟨v6, rfl, C6, B11⟩
      have BB11 := below_trans' BB10 B11
      replace HL := HL.below B11
      replace HG := HG.below B11
      replace x0 := cell_keep x0 B11
      replace x1 := cell_keep x1 B11
      replace x2 := cell_keep x2 B11
      replace C1 := C1.below B11
      replace C2 := C2.below B11
      replace C3 := C3.below B11
      replace C4 := C4.below B11
      replace C5 := C5.below B11
      clear CC11 B11
      obtain ⟨a6, n6, rfl⟩ := C6.lens13 rfl
      have CC12 := allSame13_any _ _ K K w11 C5 C6
      go_wp2_with fail
      refine CC12.mono ?_
      rintro e w12 ⟨s3, rfl, hs3, B12⟩
      have BB12 := below_trans' BB11 B12
      replace HL := HL.below B12
      replace HG := HG.below B12
      replace x0 := cell_keep x0 B12
      replace x1 := cell_keep x1 B12
      replace x2 := cell_keep x2 B12
      replace C1 := C1.below B12
      replace C2 := C2.below B12
      replace C3 := C3.below B12
      replace C4 := C4.below B12
      replace C5 := C5.below B12
      replace C6 := C6.below B12
      clear CC12 B12
      obtain rfl : s3 = true := hs3.2 rfl
      clear hs3
      clear C1 C2 C3 C4 C5 C6 HL HG x0 x1 x2
      go_wp2
      go_ret
      exact ⟨rfl, below_trans' BW BB12⟩
end Go.Proofs.Ytefnkbgkcjhkoaa
