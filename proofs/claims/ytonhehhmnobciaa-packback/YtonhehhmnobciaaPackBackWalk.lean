/-
  The walk of the law of segments that are packed, and unpacked.
-/
import Derived.Test.YtonhehhmnobciaaK25
import Derived.Test.YtonhehhmnobciaaK17
namespace Go.Proofs.Ytonhehhmnobciaa
set_option maxRecDepth 100000
open Go.RowKit

set_option maxRecDepth 100000 in
set_option maxHeartbeats 4000000 in
theorem packBack_walk (ia ka lna ta : Option Addr) (ic kc lnc tc : Nat) (s : Sg) (so : Bool) (w : World) (h : Sv w (.slice ia s.ids.length ic) (.slice ka s.keys.length kc) (.slice lna s.lens.length lnc) (.slice ta s.ts.length tc) s) :
    Calls Try.prog 4 #[.agg #[.slice ia s.ids.length ic, .slice ka s.keys.length kc, .slice lna s.lens.length lnc, .slice ta s.ts.length tc, .bool so]] w fun e w' => e = .returned (.bool true) ∧ Below w.heap.size w w' := by
  obtain ⟨W, hW⟩ : ∃ W, W = w.alloc (.cells #[.slice ia s.ids.length ic, .slice ka s.keys.length kc, .slice lna s.lens.length lnc, .slice ta s.ts.length tc, .bool so] 31) := ⟨_, rfl⟩
  have BW : Below w.heap.size w W := by rw [hW]; exact below_alloc _ _
  have X0 : W.heap[w.heap.size]? = some (.cells #[.slice ia s.ids.length ic, .slice ka s.keys.length kc, .slice lna s.lens.length lnc, .slice ta s.ts.length tc, .bool so] 31 (0, 0)) := by rw [hW]; exact heap_alloc_new w _
  have HV := h.below BW
  have HW := hide hW
  clear hW
  have Z0 : SB W w.heap.size ia ka lna ta ic kc lnc tc s so := ⟨X0, HV⟩
  clear X0 HV h
  go_enter Try.func4, Try.ntmps4
  go_wp2_with fail
  rw [← unhide HW]
  refine (awake9_any W).mono ?_
  rintro e w1 ⟨rfl, B1⟩
  have Z1 := Z0.below B1
  have BB1 := below_trans' BW B1
  have c0 : w1.cell? ⟨w.heap.size, 0, none⟩ = some (.slice ia s.ids.length ic) := (Z1).c0
  have c1 : w1.cell? ⟨w.heap.size, 1, none⟩ = some (.slice ka s.keys.length kc) := (Z1).c1
  have c2 : w1.cell? ⟨w.heap.size, 2, none⟩ = some (.slice lna s.lens.length lnc) := (Z1).c2
  have c3 : w1.cell? ⟨w.heap.size, 3, none⟩ = some (.slice ta s.ts.length tc) := (Z1).c3
  have c4 : w1.cell? ⟨w.heap.size, 4, none⟩ = some (.bool so) := (Z1).c4
  have HZ1 := hide Z1
  clear Z0 Z1 BW B1 HW
  go_wp2_with fail
  refine (fewSeg_any ia ka lna ta ic kc lnc tc s so w1 (unhide HZ1).sv).mono ?_
  rintro e w2 ⟨fw, rfl, hfew, B2⟩
  have HZ2 := hide ((unhide HZ1).below B2)
  have BB2 := below_trans' BB1 B2
  clear c0 c1 c2 c3 c4 HZ1 B2 BB1
  cases fw with
  | false =>
    go_wp2
    go_ret
    exact ⟨rfl, BB2⟩
  | true =>
  obtain ⟨hf1, hf2⟩ := hfew rfl
  have hsz : ∀ x ∈ s.ids, x.size ≤ maxLen := fun x hx => by have := hf1 x hx; unfold maxLen; omega
  have htl : s.ts.length ≤ 3518437208780 := by omega
  have HSZ := hide hsz
  have c0 : w2.cell? ⟨w.heap.size, 0, none⟩ = some (.slice ia s.ids.length ic) := (unhide HZ2).c0
  have c1 : w2.cell? ⟨w.heap.size, 1, none⟩ = some (.slice ka s.keys.length kc) := (unhide HZ2).c1
  have c2 : w2.cell? ⟨w.heap.size, 2, none⟩ = some (.slice lna s.lens.length lnc) := (unhide HZ2).c2
  have c3 : w2.cell? ⟨w.heap.size, 3, none⟩ = some (.slice ta s.ts.length tc) := (unhide HZ2).c3
  have c4 : w2.cell? ⟨w.heap.size, 4, none⟩ = some (.bool so) := (unhide HZ2).c4
  have CP := pack9_any ia ka lna ta ic kc lnc tc s so w2 (unhide HZ2).sv hsz htl
  unfold PkEnd at CP
  clear hfew hf1 hf2 hsz
  by_cases hM : MayP s so
  case neg =>
    have HM := hide hM
    clear hM
    go_wp2_with fail
    refine CP.mono ?_
    rintro e w3 (⟨hy, -⟩ | ⟨-, rfl, B3⟩)
    · exact absurd hy (unhide HM)
    have HZ3 := hide ((unhide HZ2).below B3)
    have BB3 := below_trans' BB2 B3
    clear c0 c1 c2 c3 c4 HZ2 CP B3 BB2
    have c0 : w3.cell? ⟨w.heap.size, 0, none⟩ = some (.slice ia s.ids.length ic) := (unhide HZ3).c0
    have c1 : w3.cell? ⟨w.heap.size, 1, none⟩ = some (.slice ka s.keys.length kc) := (unhide HZ3).c1
    have c2 : w3.cell? ⟨w.heap.size, 2, none⟩ = some (.slice lna s.lens.length lnc) := (unhide HZ3).c2
    have c3 : w3.cell? ⟨w.heap.size, 3, none⟩ = some (.slice ta s.ts.length tc) := (unhide HZ3).c3
    have c4 : w3.cell? ⟨w.heap.size, 4, none⟩ = some (.bool so) := (unhide HZ3).c4
    go_wp2_with (go_at_call 17; refine (segMay_all ia ka lna ta ic kc lnc tc s so w3 (unhide HZ3).sv (unhide HSZ) htl).mono ?_; rintro e w6 ⟨r6, rfl, hr6, B6⟩; obtain rfl : r6 = false := (by cases r6 with | false => rfl | true => exact absurd (hr6.1 rfl) (unhide HM)))
    go_ret
    exact ⟨rfl, below_trans' BB3 B6⟩
  obtain ⟨l, hl⟩ : ∃ l, F.wrap 83 (J.inner s so) = l := ⟨_, rfl⟩
  have HBT : Hid (V.Byt l) := hide (by rw [← hl]; exact wrap_byt9 hM)
  have HU := hide (fun (g : Sg) (so' : Bool) (er : Int) (hu : UnP l g so' er) => unp_wrap hM (by rw [hl]; exact hu))
  have HM := hide hM
  rw [hl] at CP
  clear hM hl
  go_wp2_with fail
  refine CP.mono ?_
  rintro e w3 (⟨-, v3, rfl, O3, B3⟩ | ⟨hn, -⟩)
  case inr => exact absurd (unhide HM) hn
  obtain ⟨pa, pc, hv3, -⟩ := id (Sl.owned O3)
  subst hv3
  have HZ3 := hide ((unhide HZ2).below B3)
  have BB3 := below_trans' BB2 B3
  clear c0 c1 c2 c3 c4 HZ2 CP B3 BB2
  go_wp2_with fail
  refine (unpack9_any _ l w3 (Sl.owned O3) (unhide HBT)).mono ?_
  rintro e w4 ⟨iv, kv, lv, tv, so', er, g, rfl, S4, U4, B4⟩
  obtain ⟨rfl, rfl, rfl⟩ := unhide HU _ _ _ U4
  obtain ⟨ja, kb, lb, tb, jc, kd, ld, td, rfl, rfl, rfl, rfl⟩ := S4.shape
  have Z4 := SB.new (so := so') S4
  obtain ⟨W4, hW4⟩ : ∃ W4, W4 = w4.alloc (.cells #[.slice ja g.ids.length jc, .slice kb g.keys.length kd, .slice lb g.lens.length ld, .slice tb g.ts.length td, .bool so'] 31) := ⟨_, rfl⟩
  have BW4 : Below w4.heap.size w4 W4 := by rw [hW4]; exact below_alloc _ _
  rw [← hW4] at Z4
  obtain ⟨p4, hp4⟩ : ∃ p4, p4 = w4.heap.size := ⟨_, rfl⟩
  rw [← hp4] at Z4
  have BB4 := below_trans' (below_trans' BB3 B4) BW4
  have Y4 := (unhide HZ3).below B4
  have Y4' := Y4.below BW4
  have CS := rsegSame_any ja kb lb tb jc kd ld td g so' ia ka lna ta ic kc lnc tc W4 Z4.sv Y4'.sv
  have HW4 := hide hW4
  have HP4 := hide hp4
  have HY4 := hide Y4'
  have c0 : w4.cell? ⟨w.heap.size, 0, none⟩ = some (.slice ia g.ids.length ic) := (Y4).c0
  have c1 : w4.cell? ⟨w.heap.size, 1, none⟩ = some (.slice ka g.keys.length kc) := (Y4).c1
  have c2 : w4.cell? ⟨w.heap.size, 2, none⟩ = some (.slice lna g.lens.length lnc) := (Y4).c2
  have c3 : w4.cell? ⟨w.heap.size, 3, none⟩ = some (.slice ta g.ts.length tc) := (Y4).c3
  have c4 : w4.cell? ⟨w.heap.size, 4, none⟩ = some (.bool so') := (Y4).c4
  have lt4 : w.heap.size < w4.heap.size := (Array.getElem?_eq_some_iff.1 Y4.box).1
  clear hW4 hp4 Z4 S4 U4 B4 O3 BW4 Y4 Y4' HZ3
  go_wp2_with fail
  rw [← unhide HW4]
  refine CS.mono ?_
  rintro e w5 ⟨rfl, B5⟩
  have HZ5 := hide ((unhide HY4).below B5)
  have BB5 := below_trans' BB4 B5
  clear c0 c1 c2 c3 c4 CS HW4 HP4 BB4 B5 HY4
  have c0 : w5.cell? ⟨w.heap.size, 0, none⟩ = some (.slice ia g.ids.length ic) := (unhide HZ5).c0
  have c1 : w5.cell? ⟨w.heap.size, 1, none⟩ = some (.slice ka g.keys.length kc) := (unhide HZ5).c1
  have c2 : w5.cell? ⟨w.heap.size, 2, none⟩ = some (.slice lna g.lens.length lnc) := (unhide HZ5).c2
  have c3 : w5.cell? ⟨w.heap.size, 3, none⟩ = some (.slice ta g.ts.length tc) := (unhide HZ5).c3
  have c4 : w5.cell? ⟨w.heap.size, 4, none⟩ = some (.bool so') := (unhide HZ5).c4
  go_wp2_with (go_at_call 17; refine (segMay_all ia ka lna ta ic kc lnc tc g so' w5 (unhide HZ5).sv (unhide HSZ) htl).mono ?_; rintro e w6 ⟨r6, rfl, hr6, B6⟩; obtain rfl : r6 = true := hr6.2 (unhide HM))
  go_ret
  exact ⟨rfl, below_trans' BB5 B6⟩
end Go.Proofs.Ytonhehhmnobciaa
