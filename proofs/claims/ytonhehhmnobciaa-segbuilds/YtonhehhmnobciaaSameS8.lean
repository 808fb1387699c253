/-
  The contract of Same, at two segments that read as one.
-/
import Derived.Test.YtonhehhmnobciaaHead8
import Derived.Test.YtonhehhmnobciaaSame6
namespace Go.Proofs.Ytonhehhmnobciaa
set_option maxRecDepth 100000
open Go.RowKit

set_option maxRecDepth 100000 in
set_option maxHeartbeats 4000000 in
theorem equalS_any (va vb : Value) (xs : List ByteArray) (w : World) (ha : Gl .string w va xs) (hb : Gl .string w vb xs) :
    Calls Try.prog 54 #[va, vb] w fun e w' => e = .returned (.bool true) ∧ Below w.heap.size w w' := by
  obtain ⟨a, ca, rfl, la, ma, na, oa⟩ := ha.open
  obtain ⟨b, cb, rfl, lb, mb, nb, ob⟩ := hb.open
  clear ha hb
  go_enter Try.func54, Try.ntmps54
  go_wp2
  go_loopw [13] (fun iv wr => ∃ k n : Nat, k ≤ xs.length ∧ iv = .int .i64 k ∧ wr = w.drewN n) (fun iv _ => xs.length - (intOf iv).toNat)
  case atStart => exact ⟨0, 0, Nat.zero_le _, rfl, rfl⟩
  case round =>
    obtain ⟨k, n, hk, rfl, rfl⟩ := hrel
    by_cases hlt : k < xs.length
    · obtain ⟨b1, o1, rfl, hb1, hc1⟩ := oa (by omega)
      obtain ⟨b2, o2, rfl, hb2, hc2⟩ := ob (by omega)
      obtain ⟨x, hx⟩ : ∃ x, xs[k]? = some x := ⟨xs[k], List.getElem?_eq_getElem hlt⟩
      have e1 := hc1 k x hx
      have e2 := hc2 k x hx
      have hq : (x.toList == x.toList) = true := by simp
      have p1 : (k : Int) < (xs.length : Int) := by omega
      clear hc1 hc2 oa ob hx
      go_wp2
      go_quiet (fail)
      go_wp2
      go_roundw
      case rel => exact ⟨k + 1, _, by omega, by go_num, rfl⟩
      case measure => simp [intOf]; omega
    · go_wp2
      go_ret
      exact ⟨rfl, below_dr (Below.refl _ _) n⟩

set_option maxRecDepth 100000 in
set_option maxHeartbeats 4000000 in
theorem same1T_any (t : Tm) (pa qa : Option Addr) (pc qc : Nat) (w : World) (hp : Pl w (.slice pa t.p.length pc) t.p) (hq : Pl w (.slice qa t.p.length qc) t.p) :
    Calls Try.prog 57 #[.agg #[.string t.t, .slice pa t.p.length pc], .agg #[.string t.t, .slice qa t.p.length qc]] w fun e w' => e = .returned (.bool true) ∧ Below w.heap.size w w' := by
  obtain ⟨W, hW⟩ : ∃ W, W = (w.alloc (.cells #[.string t.t, .slice pa t.p.length pc] 66)).alloc (.cells #[.string t.t, .slice qa t.p.length qc] 66) := ⟨_, rfl⟩
  have BW : Below w.heap.size w W := by rw [hW]; exact below_all (below_alloc _ _) _
  have C := same_any _ _ _ _ W (hp.below BW) (hq.below BW)
  rw [Pt.eqs_refl] at C
  have HW := hide hW
  have he : (t.t.toList == t.t.toList) = true := by simp
  clear hW hp hq
  go_enter Try.func57, Try.ntmps57
  go_wp2_with fail
  rw [← unhide HW]
  refine C.mono ?_
  rintro e w1 ⟨rfl, B1⟩
  have BB := below_trans' BW B1
  go_wp2
  go_ret
  exact ⟨rfl, BB⟩

set_option maxRecDepth 100000 in
set_option maxHeartbeats 4000000 in
theorem equalT_any (v u : Value) (L : List Tm) (w : World) (h : Ts w v L) (k : Ts w u L) :
    Calls Try.prog 56 #[v, u, .func (.func 57) #[] #[]] w fun e w' => e = .returned (.bool true) ∧ Below w.heap.size w w' := by
  have HV := h
  have HU := k
  obtain ⟨a, cap, rfl, hl, hm, hna, -⟩ := h.open
  obtain ⟨a2, cap2, rfl, hl2, hm2, hna2, -⟩ := k.open
  clear h k
  go_enter Try.func56, Try.ntmps56
  go_wp2
  go_loopw [17] (fun iv wr => ∃ k : Nat, k ≤ L.length ∧ iv = .int .i64 k ∧ Below w.heap.size w wr) (fun iv _ => L.length - (intOf iv).toNat)
  case atStart => exact ⟨0, Nat.zero_le _, rfl, Below.refl _ _⟩
  case round =>
    obtain ⟨k, hk, rfl, hbel⟩ := hrel
    by_cases hlt : k < L.length
    · obtain ⟨a', c', hv', -, -, -, ho⟩ := (HV.below hbel).open
      simp only [Value.slice.injEq, true_and] at hv'
      obtain ⟨rfl, rfl⟩ := hv'
      obtain ⟨b1, o1, rfl, hb1, hc1⟩ := ho (by omega)
      clear ho
      obtain ⟨a', c', hv', -, -, -, ho⟩ := (HU.below hbel).open
      simp only [Value.slice.injEq, true_and] at hv'
      obtain ⟨rfl, rfl⟩ := hv'
      obtain ⟨b2, o2, rfl, hb2, hc2⟩ := ho (by omega)
      obtain ⟨t, hx⟩ : ∃ t, L[k]? = some t := ⟨L[k], List.getElem?_eq_getElem hlt⟩
      obtain ⟨pa, pc, c0, c1, P1⟩ := hc1 k t hx
      obtain ⟨qa, qc, d0, d1, P2⟩ := hc2 k t hx
      have BW : Below wr.heap.size wr ((wr.alloc (.cells #[.string t.t, .slice pa t.p.length pc] 66)).alloc (.cells #[.string t.t, .slice qa t.p.length qc] 66)) := below_all (below_alloc _ _) _
      have C := same1T_any t pa qa pc qc _ (P1.below BW) (P2.below BW)
      have BX := below_trans' hbel BW
      clear ho hc1 hc2 hx P1 P2 BW hbel
      go_wp2_with (go_at_call 57; refine C.mono ?_; rintro e w1 ⟨rfl, B1⟩)
      have B3 := below_trans' BX B1
      clear BX B1 C
      go_roundw
      case rel => exact ⟨k + 1, by omega, by go_num, B3⟩
      case measure => simp [intOf]; omega
    · go_wp2
      go_ret
      exact ⟨rfl, hbel⟩

set_option maxRecDepth 100000 in
set_option maxHeartbeats 4000000 in
theorem segSame_any (ia ka lna ta : Option Addr) (ic kc lnc tc : Nat) (s : Sg) (so : Bool) (ia2 ka2 lna2 ta2 : Option Addr) (ic2 kc2 lnc2 tc2 : Nat) (w : World) (h : Sv w (.slice ia s.ids.length ic) (.slice ka s.keys.length kc) (.slice lna s.lens.length lnc) (.slice ta s.ts.length tc) s) (k : Sv w (.slice ia2 s.ids.length ic2) (.slice ka2 s.keys.length kc2) (.slice lna2 s.lens.length lnc2) (.slice ta2 s.ts.length tc2) s) :
    Calls Try.prog 24 #[.agg #[.slice ia s.ids.length ic, .slice ka s.keys.length kc, .slice lna s.lens.length lnc, .slice ta s.ts.length tc, .bool so], .agg #[.slice ia2 s.ids.length ic2, .slice ka2 s.keys.length kc2, .slice lna2 s.lens.length lnc2, .slice ta2 s.ts.length tc2, .bool so]] w fun e w' => e = .returned (.bool true) ∧ Below w.heap.size w w' := by
  obtain ⟨W, hW⟩ : ∃ W, W = (w.alloc (.cells #[.slice ia s.ids.length ic, .slice ka s.keys.length kc, .slice lna s.lens.length lnc, .slice ta s.ts.length tc, .bool so] 31)).alloc (.cells #[.slice ia2 s.ids.length ic2, .slice ka2 s.keys.length kc2, .slice lna2 s.lens.length lnc2, .slice ta2 s.ts.length tc2, .bool so] 31) := ⟨_, rfl⟩
  have BW : Below w.heap.size w W := by rw [hW]; exact below_all (below_alloc _ _) _
  have X0 : W.heap[w.heap.size]? = some (.cells #[.slice ia s.ids.length ic, .slice ka s.keys.length kc, .slice lna s.lens.length lnc, .slice ta s.ts.length tc, .bool so] 31 (0, 0)) := by rw [hW, Below.heap_alloc _ _ _ (by simp)]; exact heap_alloc_new w _
  have Y0 : W.heap[w.heap.size + 1]? = some (.cells #[.slice ia2 s.ids.length ic2, .slice ka2 s.keys.length kc2, .slice lna2 s.lens.length lnc2, .slice ta2 s.ts.length tc2, .bool so] 31 (0, 0)) := by
    rw [hW]
    have := heap_alloc_new (w.alloc (.cells #[.slice ia s.ids.length ic, .slice ka s.keys.length kc, .slice lna s.lens.length lnc, .slice ta s.ts.length tc, .bool so] 31)) (.cells #[.slice ia2 s.ids.length ic2, .slice ka2 s.keys.length kc2, .slice lna2 s.lens.length lnc2, .slice ta2 s.ts.length tc2, .bool so] 31)
    simpa using this
  have HA := h.below BW
  have HB := k.below BW
  have HW := hide hW
  have hso : (so == so) = true := by simp
  clear hW h k
  go_enter Try.func24, Try.ntmps24
  go_wp2_with fail
  rw [← unhide HW]
  refine (equalS_any _ _ _ W HA.1 HB.1).mono ?_
  rintro e w1 ⟨rfl, B1⟩
  have X1 := box_below X0 B1
  have Y1 := box_below Y0 B1
  have HA1 := HA.below B1
  have HB1 := HB.below B1
  have BB1 := below_trans' BW B1
  have x1 := box_cell X1 (j := 1) rfl
  have y1 := box_cell Y1 (j := 1) rfl
  clear X0 Y0 HA HB B1 BW
  go_wp2_with fail
  refine (equal_b _ _ _ _ w1 HA1.2.1 HB1.2.1 true (by simp)).mono ?_
  rintro e w2 ⟨rfl, B2⟩
  have X2 := box_below X1 B2
  have Y2 := box_below Y1 B2
  have HA2 := HA1.below B2
  have HB2 := HB1.below B2
  have BB2 := below_trans' BB1 B2
  have x2 := box_cell X2 (j := 2) rfl
  have y2 := box_cell Y2 (j := 2) rfl
  clear X1 Y1 HA1 HB1 B2 BB1 x1 y1
  go_wp2_with fail
  refine (equal_b _ _ _ _ w2 HA2.2.2.1 HB2.2.2.1 true (by simp)).mono ?_
  rintro e w3 ⟨rfl, B3⟩
  have X3 := box_below X2 B3
  have Y3 := box_below Y2 B3
  have HA3 := HA2.below B3
  have HB3 := HB2.below B3
  have BB3 := below_trans' BB2 B3
  have x3 := box_cell X3 (j := 3) rfl
  have y3 := box_cell Y3 (j := 3) rfl
  clear X2 Y2 HA2 HB2 B3 BB2 x2 y2
  go_wp2_with fail
  refine (equalT_any _ _ _ w3 HA3.2.2.2 HB3.2.2.2).mono ?_
  rintro e w4 ⟨rfl, B4⟩
  have BB4 := below_trans' BB3 B4
  go_wp2
  go_ret
  exact ⟨rfl, BB4⟩
end Go.Proofs.Ytonhehhmnobciaa
