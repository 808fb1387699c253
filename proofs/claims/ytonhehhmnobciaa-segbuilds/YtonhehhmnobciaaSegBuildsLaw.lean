/-
  SegBuilds holds for all cards, sorted or not, and every two cards more: what they make, or why they make none, is what the document says, and of two cards one is before the other one just if the document says so. No condition.
-/
import Derived.Test.YtonhehhmnobciaaAwake8
import Derived.Test.YtonhehhmnobciaaSameInts
import Derived.BigQuiet
import Derived.Deep.QuietTactic
import Derived.Test.YtonhehhmnobciaaRBuild8
import Derived.Test.YtonhehhmnobciaaKBase8
import Derived.Test.YtonhehhmnobciaaRows
import Derived.WalkKit
import Derived.ProofKit
import Derived.OpenShut
import Derived.ChangeOld
import Derived.ChangeMaps5
import Derived.Deep.SlicePairs
import Derived.Deep.Strs
import Derived.Lib.SmallJoins
import Derived.SizedLaws
import Derived.ShutString
import Derived.Below
namespace Go.Proofs.Ytonhehhmnobciaa
set_option maxRecDepth 100000
open Go.RowKit

set_option maxRecDepth 100000 in
set_option maxHeartbeats 8000000 in
theorem rsegSame_any (ia ka lna ta : Option Addr) (ic kc lnc tc : Nat) (s : Sg) (so : Bool) (ia2 ka2 lna2 ta2 : Option Addr) (ic2 kc2 lnc2 tc2 : Nat) (w : World) (h : Sv w (.slice ia s.ids.length ic) (.slice ka s.keys.length kc) (.slice lna s.lens.length lnc) (.slice ta s.ts.length tc) s) (k : Sv w (.slice ia2 s.ids.length ic2) (.slice ka2 s.keys.length kc2) (.slice lna2 s.lens.length lnc2) (.slice ta2 s.ts.length tc2) s) :
    Calls Try.prog 11 #[.agg #[.slice ia s.ids.length ic, .slice ka s.keys.length kc, .slice lna s.lens.length lnc, .slice ta s.ts.length tc, .bool so], .agg #[.slice ia2 s.ids.length ic2, .slice ka2 s.keys.length kc2, .slice lna2 s.lens.length lnc2, .slice ta2 s.ts.length tc2, .bool so]] w fun e w' => e = .returned (.bool true) ∧ Below w.heap.size w w' := by
  obtain ⟨W, hW⟩ : ∃ W, W = (w.alloc (.cells #[.slice ia s.ids.length ic, .slice ka s.keys.length kc, .slice lna s.lens.length lnc, .slice ta s.ts.length tc, .bool so] 31)).alloc (.cells #[.slice ia2 s.ids.length ic2, .slice ka2 s.keys.length kc2, .slice lna2 s.lens.length lnc2, .slice ta2 s.ts.length tc2, .bool so] 31) := ⟨_, rfl⟩
  have BW : Below w.heap.size w W := by rw [hW]; exact below_all (below_alloc _ _) _
  have X0 : W.heap[w.heap.size]? = some (.cells #[.slice ia s.ids.length ic, .slice ka s.keys.length kc, .slice lna s.lens.length lnc, .slice ta s.ts.length tc, .bool so] 31 (0, 0)) := by rw [hW, Below.heap_alloc _ _ _ (by simp)]; exact heap_alloc_new w _
  have Y0 : W.heap[w.heap.size + 1]? = some (.cells #[.slice ia2 s.ids.length ic2, .slice ka2 s.keys.length kc2, .slice lna2 s.lens.length lnc2, .slice ta2 s.ts.length tc2, .bool so] 31 (0, 0)) := by
    rw [hW]
    have := heap_alloc_new (w.alloc (.cells #[.slice ia s.ids.length ic, .slice ka s.keys.length kc, .slice lna s.lens.length lnc, .slice ta s.ts.length tc, .bool so] 31)) (.cells #[.slice ia2 s.ids.length ic2, .slice ka2 s.keys.length kc2, .slice lna2 s.lens.length lnc2, .slice ta2 s.ts.length tc2, .bool so] 31)
    simpa using this
  have XA : SB W w.heap.size ia ka lna ta ic kc lnc tc s so := ⟨X0, h.below BW⟩
  have XB : SB W (w.heap.size + 1) ia2 ka2 lna2 ta2 ic2 kc2 lnc2 tc2 s so := ⟨Y0, k.below BW⟩
  have hmx : s.ts.length ≤ 9223372036854775807 := by
    obtain ⟨_, _, _, hl9, hm9, _⟩ := h.2.2.2.open
    omega
  have HW := hide hW
  clear hW h k X0 Y0
  go_enter Try.func11, Try.ntmps11
  go_wp2_with fail
  rw [← unhide HW]
  obtain ⟨p1, hp1⟩ : ∃ p1, w.heap.size = p1 := ⟨_, rfl⟩
  obtain ⟨p2, hp2⟩ : ∃ p2, w.heap.size + 1 = p2 := ⟨_, rfl⟩
  have HP := hide hp1
  rw [hp2] at XB
  rw [hp1] at XA
  simp only [hp2]
  simp only [hp1]
  clear hp1 hp2 HW
  refine (texts_any _ _ s.ids s.ids _ XA.sv.1 XB.sv.1 true (by simp)).mono ?_
  rintro e w1 ⟨rfl, B1⟩
  replace XA := XA.below B1
  replace XB := XB.below B1
  replace BW := below_trans' BW B1
  clear B1
  have a0 := XA.c0
  have a1 := XA.c1
  have a2 := XA.c2
  have a3 := XA.c3
  have a4 := XA.c4
  have b0 := XB.c0
  have b1 := XB.c1
  have b2 := XB.c2
  have b3 := XB.c3
  have b4 := XB.c4
  go_wp2_with fail
  refine (ints_b _ _ s.keys s.keys _ XA.sv.2.1 XB.sv.2.1 true (by simp)).mono ?_
  rintro e w2 ⟨rfl, B2⟩
  replace XA := XA.below B2
  replace XB := XB.below B2
  replace BW := below_trans' BW B2
  clear B2
  clear a0 a1 a2 a3 a4 b0 b1 b2 b3 b4
  have a0 := XA.c0
  have a1 := XA.c1
  have a2 := XA.c2
  have a3 := XA.c3
  have a4 := XA.c4
  have b0 := XB.c0
  have b1 := XB.c1
  have b2 := XB.c2
  have b3 := XB.c3
  have b4 := XB.c4
  go_wp2_with fail
  refine (ints_b _ _ s.lens s.lens _ XA.sv.2.2.1 XB.sv.2.2.1 true (by simp)).mono ?_
  rintro e w3 ⟨rfl, B3⟩
  replace XA := XA.below B3
  replace XB := XB.below B3
  replace BW := below_trans' BW B3
  clear B3
  clear a0 a1 a2 a3 a4 b0 b1 b2 b3 b4
  have a0 := XA.c0
  have a1 := XA.c1
  have a2 := XA.c2
  have a3 := XA.c3
  have a4 := XA.c4
  have b0 := XB.c0
  have b1 := XB.c1
  have b2 := XB.c2
  have b3 := XB.c3
  have b4 := XB.c4
  have q1 : (so == so) = true := by simp
  have q2 : (so != so) = false := by simp
  have q3 : ((s.ts.length : Int) != (s.ts.length : Int)) = false := by simp
  go_wp2
  clear a0 a1 a2 a3 a4 b0 b1 b2 b3 b4
  go_loopw [8] (fun iv wr => ∃ k : Nat, k ≤ s.ts.length ∧ iv = .int .i64 k ∧ Below w3.heap.size w3 wr) (fun iv _ => s.ts.length - (intOf iv).toNat)
  case atStart => exact ⟨0, Nat.zero_le _, rfl, Below.refl _ _⟩
  case round =>
    obtain ⟨k, hk, rfl, hbel⟩ := hrel
    have ZA := XA.below hbel
    have ZB := XB.below hbel
    have za := ZA.c3
    have zb := ZB.c3
    by_cases hlt : k < s.ts.length
    · obtain ⟨a', c', hv', -, -, -, ho⟩ := ZA.sv.2.2.2.open
      simp only [Value.slice.injEq, true_and] at hv'
      obtain ⟨rfl, rfl⟩ := hv'
      obtain ⟨b1, o1, rfl, hb1, hc1⟩ := ho (by omega)
      clear ho
      obtain ⟨a', c', hv', -, -, -, ho⟩ := ZB.sv.2.2.2.open
      simp only [Value.slice.injEq, true_and] at hv'
      obtain ⟨rfl, rfl⟩ := hv'
      obtain ⟨b2, o2, rfl, hb2, hc2⟩ := ho (by omega)
      obtain ⟨t, hx⟩ : ∃ t, s.ts[k]? = some t := ⟨s.ts[k], List.getElem?_eq_getElem hlt⟩
      obtain ⟨pa, pc, c0, c1, P1⟩ := hc1 k t hx
      obtain ⟨qa, qc, d0, d1, P2⟩ := hc2 k t hx
      have g0 : ∀ w', Below wr.heap.size wr w' → w'.cell? ⟨p1, 3, none⟩ = some (.slice (some ⟨b1, o1, none⟩) s.ts.length tc) := fun w' hw' => cell_keep za hw'
      have g1 : ∀ w', Below wr.heap.size wr w' → w'.cell? ⟨b1, o1 + k * 2, none⟩ = some (.string t.t) := fun w' hw' => cell_keep c0 hw'
      have g2 : ∀ w', Below wr.heap.size wr w' → w'.cell? ⟨b1, o1 + k * 2 + 1, none⟩ = some (.slice pa t.p.length pc) := fun w' hw' => cell_keep c1 hw'
      have k0 : ∀ w', Below wr.heap.size wr w' → w'.cell? ⟨p2, 3, none⟩ = some (.slice (some ⟨b2, o2, none⟩) s.ts.length tc2) := fun w' hw' => cell_keep zb hw'
      have k1 : ∀ w', Below wr.heap.size wr w' → w'.cell? ⟨b2, o2 + k * 2, none⟩ = some (.string t.t) := fun w' hw' => cell_keep d0 hw'
      have k2 : ∀ w', Below wr.heap.size wr w' → w'.cell? ⟨b2, o2 + k * 2 + 1, none⟩ = some (.slice qa t.p.length qc) := fun w' hw' => cell_keep d1 hw'
      have p9 : (k : Int) < (s.ts.length : Int) := by omega
      have q5 : (t.t.toList == t.t.toList) = true := by simp
      have q6 : (t.t.toList != t.t.toList) = false := by simp
      clear ho hc1 hc2 hx
      go_wp2
      refine region_below (by kernel_rfl) (by kernel_rfl) ?_
      repeat
        (first
          | go_big_quiet_skip
          | (go_big_quiet_want; go_big_quiet_op
             first
               | go_big_quiet_on
               | (apply Exists.intro
                  refine ⟨fun w' hw' => ?_, ?_⟩
                  · first
                    | exact rfl
                    | (rw [g0 w' hw']; exact ⟨rfl, rfl⟩)
                    | (rw [g1 w' hw']; exact ⟨rfl, rfl⟩)
                    | (rw [g2 w' hw']; exact ⟨rfl, rfl⟩)
                    | (rw [k0 w' hw']; exact ⟨rfl, rfl⟩)
                    | (rw [k1 w' hw']; exact ⟨rfl, rfl⟩)
                    | (rw [k2 w' hw']; exact ⟨rfl, rfl⟩)
                    | (go_at_call 20; have C := rsame_any _ _ t.p t.p _ (P1.below hw') (P2.below hw'); rw [Pt.eqs_refl] at C; exact C.mono fun e w'' ⟨h1, h2⟩ => ⟨h1, below_trans' hw' h2⟩)
                  go_big_quiet_on)))
      refine wpQuiet_nil ?_
      intro w5 hb5
      have B5 := below_trans' hbel hb5
      replace za := cell_keep za hb5
      replace zb := cell_keep zb hb5
      replace c0 := cell_keep c0 hb5
      replace d0 := cell_keep d0 hb5
      clear g0 g1 g2 k0 k1 k2 P1 P2 c1 d1 ZA ZB
      go_wp2
      go_quiet (fail)
      have B6 := below_dr' B5 nq
      go_wp2
      go_roundw
      case rel => exact ⟨k + 1, by omega, by go_num, B6⟩
      case measure => simp [intOf]; omega
    · replace BW := below_trans' BW hbel
      go_wp2
      go_ret
      exact ⟨rfl, by rw [unhide HP] at *; exact BW⟩
end Go.Proofs.Ytonhehhmnobciaa

namespace Go.Proofs.Ytonhehhmnobciaa
set_option maxRecDepth 100000
open Go.RowKit

abbrev cdv (c : Cd) (x : Option Addr) (n m : Nat) : Array Value := #[.string c.id, .int .i64 c.key, .slice x n m]
/-- A card in its box. -/
def CB (w : World) (b : Nat) (c : Cd) (x : Option Addr) (n m : Nat) : Prop := w.heap[b]? = some (.cells #[.string c.id, .int .i64 c.key, .slice x n m] 25 (0, 0))
theorem CB.below {w w' : World} {b : Nat} {c : Cd} {x : Option Addr} {n m : Nat} (h : CB w b c x n m) (hb : Below w.heap.size w w') : CB w' b c x n m := box_below h hb
theorem CB.c0 {w : World} {b : Nat} {c : Cd} {x : Option Addr} {n m : Nat} (h : CB w b c x n m) : w.cell? ⟨b, 0, none⟩ = some (.string c.id) := box_cell h rfl
theorem CB.c1 {w : World} {b : Nat} {c : Cd} {x : Option Addr} {n m : Nat} (h : CB w b c x n m) : w.cell? ⟨b, 1, none⟩ = some (.int .i64 c.key) := box_cell h rfl
theorem CB.c2 {w : World} {b : Nat} {c : Cd} {x : Option Addr} {n m : Nat} (h : CB w b c x n m) : w.cell? ⟨b, 2, none⟩ = some (.slice x n m) := box_cell h rfl

theorem ne_toList {x y : ByteArray} (h : x ≠ y) : (x.toList == y.toList) = false := by
  rw [K.eq_to]; simpa using h

end Go.Proofs.Ytonhehhmnobciaa

namespace Go.Proofs.Ytonhehhmnobciaa
set_option maxRecDepth 100000
open Go.RowKit

set_option maxRecDepth 100000 in
set_option maxHeartbeats 8000000 in
theorem segBuilds_walk (v : Value) (L : List Cd) (so : Bool) (a b : Cd) (xa xb : Option Addr) (na ma nb mb : Nat) (w : World) (h : Cs w v L) (hlen : L.length ≤ 4398046511104) :
    Calls Try.prog 3 #[v, .bool so, .agg #[.string a.id, .int .i64 a.key, .slice xa na ma], .agg #[.string b.id, .int .i64 b.key, .slice xb nb mb]] w fun e w' => e = .returned (.bool true) ∧ Below w.heap.size w w' := by
  obtain ⟨W, hW⟩ : ∃ W, W = (w.alloc (.cells #[.string a.id, .int .i64 a.key, .slice xa na ma] 25)).alloc (.cells #[.string b.id, .int .i64 b.key, .slice xb nb mb] 25) := ⟨_, rfl⟩
  have BW : Below w.heap.size w W := by rw [hW]; exact below_all (below_alloc _ _) _
  have XA : CB W w.heap.size a xa na ma := by
    rw [hW]
    exact box_below (heap_alloc_new w _) (below_alloc _ _)
  have XB : CB W (w.heap.size + 1) b xb nb mb := by
    have := heap_alloc_new (w.alloc (.cells #[.string a.id, .int .i64 a.key, .slice xa na ma] 25)) (.cells #[.string b.id, .int .i64 b.key, .slice xb nb mb] 25)
    rw [show (w.alloc (.cells #[.string a.id, .int .i64 a.key, .slice xa na ma] 25)).heap.size = w.heap.size + 1 by simp] at this
    rw [hW]
    exact this
  have HV := h.below BW
  have HW := hide hW
  obtain ⟨va, vc, rfl, hl, hm, hna, -⟩ := h.open
  obtain ⟨R, hR⟩ : ∃ R, S.build L so = R := ⟨_, rfl⟩
  have HR := hide hR
  clear hR hW h
  go_enter Try.func3, Try.ntmps3
  go_wp2_with fail
  rw [← unhide HW]
  refine (awake_any W).mono ?_
  rintro e w1 ⟨rfl, B1⟩
  have HV1 := HV.below B1
  replace XA := XA.below B1
  replace XB := XB.below B1
  have BB := below_trans' BW B1
  clear HV BW B1
  go_wp2_with fail
  refine (few8_any _ L w1 HV1).mono ?_
  rintro e w9 ⟨fw, rfl, hfew, hw9⟩
  rw [hw9]
  clear hw9 w9
  have A0 := XA.c0
  have A1 := XB.c0
  cases fw with
  | false =>
    clear XA XB hfew
    go_wp2
    go_ret
    exact ⟨rfl, BB⟩
  | true =>
  have HFEW := hide (hfew rfl)
  clear hfew
  by_cases ha : 40 < a.id.size
  · have q1 : (40 : Int) < (a.id.size : Int) := by omega
    clear XA XB
    go_wp2
    go_ret
    exact ⟨rfl, BB⟩
  by_cases hb : 40 < b.id.size
  · have q1 : ¬ (40 : Int) < (a.id.size : Int) := by omega
    have q2 : (40 : Int) < (b.id.size : Int) := by omega
    clear XA XB
    go_wp2
    go_ret
    exact ⟨rfl, BB⟩
  have q1 : ¬ (40 : Int) < (a.id.size : Int) := by omega
  have q2 : ¬ (40 : Int) < (b.id.size : Int) := by omega
  have HXA := hide XA
  have HXB := hide XB
  have CB1 := build_any _ L so w1 HV1 hlen R (unhide HR)
  have CB2 := fun W2 (H : Cs W2 (.slice va L.length vc) L) => rbuild_any _ L so W2 H (unhide HFEW) R (unhide HR)
  have HCB2 := hide CB2
  clear XA XB CB2
  go_wp2_with fail
  refine CB1.mono ?_
  obtain ⟨s, sb, en⟩ := R
  rintro e w2 ⟨iv, kv, lv, tv, rfl, S2, B2⟩
  obtain ⟨ia, ka, lna, ta, ic, kc, lnc, tc, rfl, rfl, rfl, rfl⟩ := S2.shape
  try dsimp only at S2
  have Z2 := SB.new (so := sb) S2
  obtain ⟨W2, hW2⟩ : ∃ W2, W2 = w2.alloc (.cells #[.slice ia s.ids.length ic, .slice ka s.keys.length kc, .slice lna s.lens.length lnc, .slice ta s.ts.length tc, .bool sb] 31) := ⟨_, rfl⟩
  have BW2 : Below w2.heap.size w2 W2 := by rw [hW2]; exact below_alloc _ _
  rw [← hW2] at Z2
  have HV2 := (HV1.below B2).below BW2
  replace BB := below_trans' (below_trans' BB B2) BW2
  have XA2 := ((unhide HXA).below B2).below BW2
  have XB2 := ((unhide HXB).below B2).below BW2
  have HW2 := hide hW2
  obtain ⟨p2, hp2⟩ : ∃ p2, p2 = w2.heap.size := ⟨_, rfl⟩
  rw [← hp2] at Z2
  have HP2 := hide hp2
  clear hW2 hp2 HV1 S2 B2 BW2 A0 A1 HXA HXB CB1
  go_wp2_with fail
  rw [← unhide HW2, ← unhide HP2]
  refine (unhide HCB2 W2 HV2).mono ?_
  rintro e w3 ⟨iv, kv, lv, tv, rfl, S3, B3⟩
  obtain ⟨ia2, ka2, lna2, ta2, ic2, kc2, lnc2, tc2, rfl, rfl, rfl, rfl⟩ := S3.shape
  try dsimp only at S3
  have Z3 := SB.new (so := sb) S3
  obtain ⟨W3, hW3⟩ : ∃ W3, W3 = w3.alloc (.cells #[.slice ia2 s.ids.length ic2, .slice ka2 s.keys.length kc2, .slice lna2 s.lens.length lnc2, .slice ta2 s.ts.length tc2, .bool sb] 31) := ⟨_, rfl⟩
  have BW3 : Below w3.heap.size w3 W3 := by rw [hW3]; exact below_alloc _ _
  rw [← hW3] at Z3
  have Y3 := Z2.below B3
  have Z2' := Y3.below BW3
  replace BB := below_trans' (below_trans' BB B3) BW3
  have XA3 := (XA2.below B3).below BW3
  have XB3 := (XB2.below B3).below BW3
  have HW3 := hide hW3
  obtain ⟨p3, hp3⟩ : ∃ p3, p3 = w3.heap.size := ⟨_, rfl⟩
  rw [← hp3] at Z3
  have HP3 := hide hp3
  have A0 := Y3.c0
  have A1 := Y3.c1
  have A2 := Y3.c2
  have A3 := Y3.c3
  have A4 := Y3.c4
  have ltp : p2 < w3.heap.size := (Array.getElem?_eq_some_iff.1 Y3.box).1
  have CS := rsegSame_any ia ka lna ta ic kc lnc tc s sb ia2 ka2 lna2 ta2 ic2 kc2 lnc2 tc2 W3 Z2'.sv Z3.sv
  clear hW3 hp3 HV2 S3 B3 BW3 HW2 HP2 Z2 Y3 XA2 XB2 Z2' Z3
  go_wp2_with fail
  rw [← unhide HW3]
  refine CS.mono ?_
  rintro e w4 ⟨rfl, B4⟩
  have XA4 := XA3.below B4
  have XB4 := XB3.below B4
  replace BB := below_trans' BB B4
  clear A0 A1 A2 A3 A4 XA3 XB3 B4 CS HW3 HP3 HCB2
  obtain ⟨r, hr⟩ : ∃ r, S.before a b = r := ⟨_, rfl⟩
  have HBF := hide hr
  have q5 : (en == en) = true := by simp
  have q6 : (r == r) = true := by simp
  have hamx : a.id.size ≤ maxLen := by unfold maxLen; omega
  clear hr
  have g0 : ∀ w', Below w4.heap.size w4 w' → w'.cell? ⟨w.heap.size, 0, none⟩ = some (.string a.id) := fun w' hw' => cell_keep XA4.c0 hw'
  have g1 : ∀ w', Below w4.heap.size w4 w' → w'.cell? ⟨w.heap.size, 1, none⟩ = some (.int .i64 a.key) := fun w' hw' => cell_keep XA4.c1 hw'
  have g2 : ∀ w', Below w4.heap.size w4 w' → w'.cell? ⟨w.heap.size, 2, none⟩ = some (.slice xa na ma) := fun w' hw' => cell_keep XA4.c2 hw'
  have k0 : ∀ w', Below w4.heap.size w4 w' → w'.cell? ⟨w.heap.size + 1, 0, none⟩ = some (.string b.id) := fun w' hw' => cell_keep XB4.c0 hw'
  have k1 : ∀ w', Below w4.heap.size w4 w' → w'.cell? ⟨w.heap.size + 1, 1, none⟩ = some (.int .i64 b.key) := fun w' hw' => cell_keep XB4.c1 hw'
  have k2 : ∀ w', Below w4.heap.size w4 w' → w'.cell? ⟨w.heap.size + 1, 2, none⟩ = some (.slice xb nb mb) := fun w' hw' => cell_keep XB4.c2 hw'
  clear XA4 XB4
  go_wp2
  refine region_below (by kernel_rfl) (by kernel_rfl) ?_
  repeat
    (first
      | go_big_quiet_skip
      | (go_big_quiet_want; go_big_quiet_op
         first
           | go_big_quiet_on
           | (apply Exists.intro
              refine ⟨fun w' hw' => ?_, ?_⟩
              · first
                | exact rfl
                | (rw [g0 w' hw']; dsimp only [Result.andThen]; rw [g1 w' hw']; dsimp only [Result.andThen]; rw [g2 w' hw']; exact ⟨rfl, rfl⟩)
                | (rw [k0 w' hw']; dsimp only [Result.andThen]; rw [k1 w' hw']; dsimp only [Result.andThen]; rw [k2 w' hw']; exact ⟨rfl, rfl⟩)
                | (go_at_call 12; exact (before_b a b _ _ _ _ _ _ _ _ (unhide HBF)).mono fun e w'' ⟨h1, h2⟩ => ⟨h1, below_trans' hw' h2⟩)
                | (go_at_call 13; exact (rbefore_b a b _ _ _ _ _ _ _ hamx _ (unhide HBF)).mono fun e w'' ⟨h1, h2⟩ => ⟨h1, below_trans' hw' h2⟩)
              go_big_quiet_on)))
  refine wpQuiet_nil ?_
  intro w9 hb9
  have B10 := below_trans' BB hb9
  clear g0 g1 g2 k0 k1 k2
  go_wp2
  go_ret
  exact ⟨rfl, B10⟩
end Go.Proofs.Ytonhehhmnobciaa

namespace Go.Proofs.Ytonhehhmnobciaa
open Go.RowKit Go.Deep Go.ChangeShapes Go.WideShapes Go.ChangeAt

section
set_option maxRecDepth 100000
variable {H : Type} {enc : TypeId × Value → H} {w : World} {base : Nat} {sp : Nat → Bool} {held : Bool} {n : Nat} {y : DataW H × List MemPlace}

theorem list_ofG {α : Type} {P : Nat → α → Prop} : ∀ (n : Nat), (∀ i, i < n → ∃ f, P i f) → ∃ L : List α, L.length = n ∧ ∀ i f, L[i]? = some f → P i f
  | 0, _ => ⟨[], rfl, fun i f h => by simp at h⟩
  | n + 1, h => by
    obtain ⟨L, hl, hp⟩ := list_ofG n fun i hi => h i (by omega)
    obtain ⟨f, hf⟩ := h n (Nat.lt_succ_self n)
    refine ⟨L ++ [f], by simp [hl], fun i g hg => ?_⟩
    rcases Nat.lt_or_ge i n with h1 | h1
    · rw [List.getElem?_append_left (by omega)] at hg
      exact hp i g hg
    · rw [List.getElem?_append_right (by omega)] at hg
      have : i - L.length = 0 := by
        have := (List.getElem?_eq_some_iff.1 hg).1
        simp at this; omega
      rw [this] at hg
      simp at hg
      subst hg
      have : i = n := by omega
      rw [this]
      exact hf

theorem tr_texts {v : Value} (h : DataW.trod enc Try.prog w base sp held n 23 [v] = some y) : ∃ s l, v = sv s ∧ Gl Value.string w (sv s) l := by
  rcases open_slice Try.underlying23 h with ⟨hcs, _⟩ | ⟨x, l, c, m, k, D, Pl, hcs, _, hl, hm, hmm, _, hx⟩
  · simp at hcs
    subst hcs
    exact ⟨(none, 0, 0), [], rfl, Gl.nil _ _⟩
  · simp at hcs
    subst hcs
    have hc : Try.prog.cellsOf 9 = 1 := by kernel_rfl
    have hlm : l ≤ m := by rw [hmm]; split <;> omega
    obtain ⟨L, hL, hp⟩ := list_ofG (P := fun i b => w.cell? (x.add i) = some (.string b)) l (fun i hi => by
      obtain ⟨cs', h1, h2⟩ := hx i (by omega)
      rw [hc] at h1
      obtain ⟨_, hlen, hcell⟩ := World.cells?_some h1
      have e0 := hcell 0 (by omega)
      match cs', hlen with
      | [u], _ =>
        obtain ⟨b, e2, _⟩ := DataW.trod_string Try.underlying9 h2
        simp at e2
        subst e2
        exact ⟨b, by simpa [Addr.add] using e0⟩)
    exact ⟨(some x, l, c), L, rfl, some x, c, by rw [hL]; rfl, by omega, hm, (fun h => by cases h), fun q hq i b hb => by
      obtain rfl := Option.some.inj hq
      exact hp i b hb⟩

theorem tr_card {cs : List Value} (h : DataW.trod enc Try.prog w base sp held n 25 cs = some y) : ∃ (p : Cd × Pts), cs = encC p ∧ Gl .string w (sv p.2) p.1.w ∧ p.1.id.size ≤ maxLen := by
  obtain ⟨y0, y1, y2, m, _, hl, g0, g1, g2⟩ := trod_struct3 Try.underlying25 h
  have hc : Try.prog.cellsOf 25 = 3 := by kernel_rfl
  have h9 : Try.prog.cellsOf 9 = 1 := by kernel_rfl
  have h27 : Try.prog.cellsOf 3 = 1 := by kernel_rfl
  have h4 : Try.prog.cellsOf 23 = 1 := by kernel_rfl
  rw [hc] at hl
  match cs, hl with
  | [v0, v1, v2], _ =>
    simp [h9, h27, h4] at g0 g1 g2
    obtain ⟨s, e0, _, hs⟩ := DataW.trod_string Try.underlying9 g0
    obtain ⟨k, e1, _⟩ := DataW.trod_int Try.underlying3 g1
    obtain ⟨q, l, rfl, hq⟩ := tr_texts g2
    simp at e0 e1
    subst e0 e1
    exact ⟨(⟨s, k, l⟩, q), rfl, hq, hs⟩

theorem tr_cards {v : Value} (h : DataW.trod enc Try.prog w base sp held n 22 [v] = some y) : ∃ L, Cs w v L ∧ ((∃ es s', y.1 = .slice es s' ∧ L.length = es.length) ∨ L = []) := by
  rcases open_slice Try.underlying22 h with ⟨hcs, _⟩ | ⟨x, l, c, m, k, D, Pl, hcs, _, hl, hm, hmm, hy, hx⟩
  · simp at hcs
    subst hcs
    exact ⟨[], Cs.nil _, .inr rfl⟩
  · simp at hcs
    subst hcs
    have hc : Try.prog.cellsOf 25 = 3 := by kernel_rfl
    have hlm : l ≤ m := by rw [hmm]; split <;> omega
    obtain ⟨ps, hL, hp⟩ := list_ofG (P := fun i (p : Cd × Pts) => (∀ j u, (encC p)[j]? = some u → w.cell? (x.add (i * 3 + j)) = some u) ∧ Gl .string w (sv p.2) p.1.w) l (fun i hi => by
      obtain ⟨cs', h1, h2⟩ := hx i (by omega)
      rw [hc] at h1
      obtain ⟨_, hlen, hcell⟩ := World.cells?_some h1
      obtain ⟨p, rfl, hw, _⟩ := tr_card h2
      refine ⟨p, fun j u hu => ?_, hw⟩
      have hj := (List.getElem?_eq_some_iff.1 hu).1
      have e0 := hcell j (by omega)
      rw [add_add, hu] at e0
      exact e0)
    refine ⟨ps.map (·.1), ⟨ps, ⟨some x, c, by rw [hL], by omega, hm, (fun h => by cases h), fun q hq i p hi j u hu => ?_⟩, rfl, fun p hpm => ?_⟩, .inl ⟨_, _, by rw [hy], by simp [hL]⟩⟩
    · obtain rfl := Option.some.inj hq
      exact (hp i p hi).1 j u hu
    · obtain ⟨i, hi, rfl⟩ := List.getElem_of_mem hpm
      exact (hp i _ (List.getElem?_eq_getElem hi)).2

theorem open_cds {r : Reach} {b0 : Nat} {v : Value} {d : DataW H} {p : List MemPlace} (hv : Value.okWide Try.prog w r b0 22 v) (h : DataW.Trod enc Try.prog w base sp held 22 v d p) : ∃ L, Cs w v L ∧ ((∃ es s', d = .slice es s' ∧ L.length = es.length) ∨ L = []) := by
  obtain ⟨a, len, cap, rfl⟩ := okWide_slice Try.underlying22 hv
  obtain ⟨fuel, hf⟩ := h
  exact tr_cards (v := .slice a len cap) (by simpa [Value.cells] using hf)
theorem cds_len {ts : List TypeId} {ds : List (DataW H)} (hsz : (DataW.weightsEach Try.prog ts ds).all (· ≤ reachBytes) = true) (ht : ts[0]? = some 22) {d : DataW H} (hd : ds[0]? = some d) {L : List Cd} (h : (∃ es s', d = .slice es s' ∧ L.length = es.length) ∨ L = []) : L.length ≤ 4398046511104 := by
  rcases h with ⟨es, s', rfl, hl⟩ | rfl
  · have := sized_slice hsz (j := 0) (t := 22) (e := 25) ht hd Try.underlying22
    rw [show Try.prog.bytesOf 25 = 48 by kernel_rfl] at this
    have h9 : reachBytes = 140737488351232 := by decide
    omega
  · exact Nat.zero_le _
theorem open_card {r : Reach} {b0 : Nat} {v : Value} {d : DataW H} {p : List MemPlace} (hv : Value.okWide Try.prog w r b0 25 v) (h : DataW.Trod enc Try.prog w base sp held 25 v d p) :
    ∃ (c : Cd) (q : Pts), v = .agg #[.string c.id, .int .i64 c.key, sv q] := by
  obtain ⟨c0, c1, c2, y0, y1, y2, m, rfl, _, _, h0, h1, h2⟩ := Joins.open_agg3 Try.underlying25 (by kernel_rfl) (by kernel_rfl) hv h
  obtain ⟨s, e0, _⟩ := DataW.trod_string Try.underlying9 h0
  obtain ⟨k, e1, _⟩ := DataW.trod_int Try.underlying3 h1
  obtain ⟨q, l, e2, _⟩ := tr_texts h2
  simp at e0 e1
  subst e0 e1 e2
  exact ⟨⟨s, k, l⟩, q, rfl⟩
theorem open_txt {r : Reach} {b0 : Nat} {v : Value} {d : DataW H} {p : List MemPlace} (hv : Value.okWide Try.prog w r b0 9 v) (h : DataW.Trod enc Try.prog w base sp held 9 v d p) : ∃ s, v = .string s ∧ s.size ≤ maxLen := by
  obtain ⟨s, h1, _, _, h2⟩ := Go.ChangeMaps.open_string Try.underlying9 hv h
  exact ⟨s, h1, h2⟩
end
end Go.Proofs.Ytonhehhmnobciaa

namespace Go.Proofs.Ytonhehhmnobciaa.segBuilds
open Go.ChangeShapes Go.WideShapes Go.ChangeAt Go.RowKit
set_option linter.unusedVariables false

theorem own : ownKnob Try.prog.godebug = none := by kernel_rfl
theorem laidOut : laidOutB Try.prog = true := by kernel_rfl

set_option maxRecDepth 100000 in
theorem lifted (os : Os) (started : os.Started) (H : Type) (enc : TypeId × Value → H) :
    ReturnsInHanded {} Try.checked os 3 .any (Rows.segBuildsSpec.pre6 enc Try.prog Try.f3 Rows.segBuildsRow.domain false) (Rows.segBuildsSpec.post enc Try.prog Try.f3 false true false false) := by
  refine returnsInHanded_of_change_sized (C := Try.checked) own started (by kernel_rfl) Try.func3
    (ChangeSpec.witness6 (enc := enc) (C := Try.checked) false ⟨#[], #[.slice none 0 0, .bool false, .agg #[.string ⟨#[]⟩, .int .i64 0, .slice none 0 0], .agg #[.string ⟨#[]⟩, .int .i64 0, .slice none 0 0]], []⟩ 8 (by kernel_rfl) (by kernel_rfl) (by kernel_rfl) (by kernel_rfl)) ?_
  intro W base args ds gs before hval0 hW hcnd hsz _
  have hval : ∀ (j : Nat) t v, Try.f3.params[j]? = some t → args[j]? = some v → Value.okWide Try.prog W .any base t v := hval0
  have hW' := hW
  obtain ⟨p, q, hA0, hV, rfl, hfz, hnd⟩ := hW
  have hA : DataW.TrodAll enc Try.prog W 0 (fun _ => true) true Try.f3.params.toList args.toList ds p := hA0
  rw [Try.params3] at hA hval
  obtain ⟨v0, vs0, d0, ds0, p0, q0, hargs, rfl, rfl, h0, r0⟩ := trodAll_cons hA
  obtain ⟨v1, vs1, d1, ds1, p1, q1, rfl, rfl, rfl, h1, r1⟩ := trodAll_cons r0
  obtain ⟨v2, vs2, d2, ds2, p2, q2, rfl, rfl, rfl, h2, r2⟩ := trodAll_cons r1
  obtain ⟨v3, vs3, d3, ds3, p3, q3, rfl, rfl, rfl, h3, r3⟩ := trodAll_cons r2
  obtain ⟨rfl, rfl, rfl⟩ := trodAll_nil r3
  obtain rfl : args = #[v0, v1, v2, v3] := by cases args; simp_all
  obtain ⟨rfl, rfl⟩ := trodVars_none hV
  have k0 := h0
  have lt0 : ∀ x ∈ p0, x.block < W.heap.size := by obtain ⟨m, hm⟩ := k0; exact DataW.trod_lt m _ _ _ hm
  obtain ⟨L0, hL0, hd0⟩ := open_cds (hval 0 22 v0 rfl rfl) h0
  have k1 := h1
  have lt1 : ∀ x ∈ p1, x.block < W.heap.size := by obtain ⟨m, hm⟩ := k1; exact DataW.trod_lt m _ _ _ hm
  obtain ⟨b1, rfl⟩ := okWide_bool Try.underlying4 (hval 1 4 v1 rfl rfl)
  have k2 := h2
  have lt2 : ∀ x ∈ p2, x.block < W.heap.size := by obtain ⟨m, hm⟩ := k2; exact DataW.trod_lt m _ _ _ hm
  obtain ⟨c2, q2, rfl⟩ := open_card (hval 2 25 v2 rfl rfl) h2
  have k3 := h3
  have lt3 : ∀ x ∈ p3, x.block < W.heap.size := by obtain ⟨m, hm⟩ := k3; exact DataW.trod_lt m _ _ _ hm
  obtain ⟨c3, q3, rfl⟩ := open_card (hval 3 25 v3 rfl rfl) h3
  have hlen := cds_len hsz (by kernel_rfl) rfl hd0
  clear hsz
  clear hA0 hval0
  refine (segBuilds_walk _ L0 b1 c2 c3 q2.1 q3.1 q2.2.1 q2.2.2 q3.2.1 q3.2.2 W hL0 hlen).mono fun e W' ⟨he, bel⟩ => ?_
  subst he
  exact ⟨_, rfl, _, _, _, [], _, [], hW', trodAll_mk1 (shut_bool Try.underlying4 _), (trodAll_cons_mk (Below.trod laidOut (by kernel_rfl) (of_decide_eq_true (by kernel_rfl)) k0 bel lt0) (trodAll_cons_mk (Below.trod laidOut (by kernel_rfl) (of_decide_eq_true (by kernel_rfl)) k1 bel lt1) (trodAll_cons_mk (Below.trod laidOut (by kernel_rfl) (of_decide_eq_true (by kernel_rfl)) k2 bel lt2) (trodAll_cons_mk (Below.trod laidOut (by kernel_rfl) (of_decide_eq_true (by kernel_rfl)) k3 bel lt3) trodAll_mk0)))), rfl, bel.frame _, fun h => by cases h⟩

theorem over : Rows.segBuildsRow.holds Try.pinned (OpenSpec.ofChange Rows.segBuildsSpec) :=
  OpenClaim.holds_of_wide 3 Try.f3 rfl rfl rfl rfl rfl rfl rfl ⟨rfl, rfl, rfl, rfl, rfl⟩ rfl rfl rfl rfl rfl (by kernel_rfl) Try.func3 (by kernel_rfl)
    (of_decide_eq_true (by kernel_rfl)) (by unfold Func.isWrapper; first | (rw [if_pos (by decide +kernel)]; kernel_rfl) | (rw [if_neg (by decide +kernel)]; exact ⟨rfl, rfl⟩))
    (fun os started H enc _ => lifted os started H enc)

theorem proved : Rows.SegBuildsSaid := over
#print axioms proved
end Go.Proofs.Ytonhehhmnobciaa.segBuilds
