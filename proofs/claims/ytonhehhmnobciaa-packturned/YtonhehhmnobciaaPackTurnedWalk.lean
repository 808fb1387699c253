/-
  The walk of the law of a segment's bytes of which some are other ones, or that are cut.
-/
import Derived.Test.YtonhehhmnobciaaK25
import Derived.Test.YtonhehhmnobciaaK17
namespace Go.Proofs.Ytonhehhmnobciaa
set_option maxRecDepth 100000
open Go.RowKit

theorem un_cut {s : Sg} {so : Bool} (h : MayP s so) {p : Nat} (hp : p < (F.wrap 83 (J.inner s so)).length) {g : Sg} {so' : Bool} {er : Int} (hu : UnP ((F.wrap 83 (J.inner s so)).take p) g so' er) : er = 5 := by
  rw [F.wrap_in h.bytes] at hp hu
  have e := F.opened_cut h.bytes hp
  rcases hu with ⟨-, h2, -⟩ | ⟨h1, -⟩ | ⟨-, -, h2, -⟩
  · rw [h2, e]
  · rw [e] at h1; cases h1
  · exact h2
theorem un_turned {s : Sg} {so : Bool} (h : MayP s so) {cur : List Int} {p i acc : Nat} (ht : F.Turned (F.wrap 83 (J.inner s so)) cur p i acc) (hi : i ≤ 4) (ha : acc ≠ 0) : (∀ (g : Sg) (so' : Bool) (er : Int), UnP cur g so' er → er = 5) ∨ (∀ (g : Sg) (so' : Bool) (er : Int), UnP cur g so' er → er = 6) := by
  rw [F.wrap_in h.bytes] at ht
  rcases F.Turned.none (by omega) (J.inner_byt h) h.bytes ht hi ha with e | e
  · left
    intro g so' er hu
    rcases hu with ⟨-, h2, -⟩ | ⟨h1, -⟩ | ⟨h1, -⟩
    · rw [h2, e]
    · rw [e] at h1; cases h1
    · rw [e] at h1; cases h1
  · right
    intro g so' er hu
    rcases hu with ⟨-, h2, -⟩ | ⟨h1, -⟩ | ⟨h1, -⟩
    · rw [h2, e]
    · rw [e] at h1; cases h1
    · rw [e] at h1; cases h1
theorem x2_zero {c : Int} (hc : 0 ≤ c ∧ c ≤ 255) : C.x2 c 0 = c := by
  unfold C.x2
  simp
  omega
theorem wraps_u8' (n : Int) (h₀ : 0 ≤ n) (h₁ : n < 2 ^ 8) : IntKind.u8.wrap n = n := by rw [IntKind.wrap_u8]; omega
theorem xor_u8' {a b : Int} (ha : 0 ≤ a ∧ a ≤ 255) (hb : 0 ≤ b ∧ b ≤ 255) : bits .xor .u8 a b = C.x2 a b := by
  obtain ⟨x, rfl⟩ := Int.eq_ofNat_of_zero_le ha.1
  obtain ⟨y, rfl⟩ := Int.eq_ofNat_of_zero_le hb.1
  have hx : x % 2 ^ IntKind.u8.bits = x := Nat.mod_eq_of_lt (show x < 2 ^ 8 by omega)
  have hy : y % 2 ^ IntKind.u8.bits = y := Nat.mod_eq_of_lt (show y < 2 ^ 8 by omega)
  have h : x ^^^ y < 2 ^ 8 := Nat.xor_lt_two_pow (by omega) (by omega)
  simp only [bits, BitVec.ofInt_natCast, BitVec.toNat_xor, BitVec.toNat_ofNat, hx, hy, C.x2, Int.toNat_natCast]
  exact wraps_u8' _ (by omega) (by omega)

set_option maxRecDepth 100000 in
set_option maxHeartbeats 8000000 in
theorem packTurned_walk (ia ka lna ta : Option Addr) (ic kc lnc tc : Nat) (s : Sg) (so : Bool) (at' e0 e1 e2 e3 : Int) (w : World) (h : Sv w (.slice ia s.ids.length ic) (.slice ka s.keys.length kc) (.slice lna s.lens.length lnc) (.slice ta s.ts.length tc) s) (hids : ∀ x ∈ s.ids, x.size ≤ maxLen) (htl : s.ts.length ≤ 3518437208780) (be : V.Byt [e0, e1, e2, e3]) :
    Calls Try.prog 6 #[.agg #[.slice ia s.ids.length ic, .slice ka s.keys.length kc, .slice lna s.lens.length lnc, .slice ta s.ts.length tc, .bool so], .int .i64 at', .agg #[.int .u8 e0, .int .u8 e1, .int .u8 e2, .int .u8 e3]] w fun e w' => e = .returned (.bool true) ∧ Below w.heap.size w w' := by
  obtain ⟨W, hW⟩ : ∃ W, W = (w.alloc (.cells #[.slice ia s.ids.length ic, .slice ka s.keys.length kc, .slice lna s.lens.length lnc, .slice ta s.ts.length tc, .bool so] 31)).alloc (.cells #[.int .u8 e0, .int .u8 e1, .int .u8 e2, .int .u8 e3] 45) := ⟨_, rfl⟩
  have BW : Below w.heap.size w W := by rw [hW]; exact below_all (below_alloc _ _) _
  have Z0 : SB W w.heap.size ia ka lna ta ic kc lnc tc s so := ⟨by rw [hW]; exact box_below (heap_alloc_new w _) (below_alloc _ _), h.below BW⟩
  have A0 : W.heap[w.heap.size + 1]? = some (.cells #[.int .u8 e0, .int .u8 e1, .int .u8 e2, .int .u8 e3] 45 (0, 0)) := by
    rw [hW]
    have := heap_alloc_new (w.alloc (.cells #[.slice ia s.ids.length ic, .slice ka s.keys.length kc, .slice lna s.lens.length lnc, .slice ta s.ts.length tc, .bool so] 31)) (.cells #[.int .u8 e0, .int .u8 e1, .int .u8 e2, .int .u8 e3] 45)
    simpa using this
  have HW := hide hW
  clear hW h
  go_enter Try.func6, Try.ntmps6
  go_wp2_with fail
  rw [← unhide HW]
  refine (awake9_any W).mono ?_
  rintro e w1 ⟨rfl, B1⟩
  have Z1 := Z0.below B1
  have HA1 := hide (box_below A0 B1)
  have BB1 := below_trans' BW B1
  have c0 : w1.cell? ⟨w.heap.size, 0, none⟩ = some (.slice ia s.ids.length ic) := (Z1).c0
  have c1 : w1.cell? ⟨w.heap.size, 1, none⟩ = some (.slice ka s.keys.length kc) := (Z1).c1
  have c2 : w1.cell? ⟨w.heap.size, 2, none⟩ = some (.slice lna s.lens.length lnc) := (Z1).c2
  have c3 : w1.cell? ⟨w.heap.size, 3, none⟩ = some (.slice ta s.ts.length tc) := (Z1).c3
  have c4 : w1.cell? ⟨w.heap.size, 4, none⟩ = some (.bool so) := (Z1).c4
  have HZ1 := hide Z1
  clear Z0 Z1 BW B1 HW A0
  go_wp2_with fail
  refine (fewSeg_any ia ka lna ta ic kc lnc tc s so w1 (unhide HZ1).sv).mono ?_
  rintro e w2 ⟨fw, rfl, -, B2⟩
  have HZ2 := hide ((unhide HZ1).below B2)
  have HA2 := hide (box_below (unhide HA1) B2)
  have BB2 := below_trans' BB1 B2
  clear c0 c1 c2 c3 c4 HZ1 HA1 B2 BB1
  have c0 : w2.cell? ⟨w.heap.size, 0, none⟩ = some (.slice ia s.ids.length ic) := (unhide HZ2).c0
  have c1 : w2.cell? ⟨w.heap.size, 1, none⟩ = some (.slice ka s.keys.length kc) := (unhide HZ2).c1
  have c2 : w2.cell? ⟨w.heap.size, 2, none⟩ = some (.slice lna s.lens.length lnc) := (unhide HZ2).c2
  have c3 : w2.cell? ⟨w.heap.size, 3, none⟩ = some (.slice ta s.ts.length tc) := (unhide HZ2).c3
  have c4 : w2.cell? ⟨w.heap.size, 4, none⟩ = some (.bool so) := (unhide HZ2).c4
  have CP := pack9_any ia ka lna ta ic kc lnc tc s so w2 (unhide HZ2).sv hids htl
  unfold PkEnd at CP
  by_cases hM : MayP s so
  case neg =>
    have HM := hide hM
    clear hM
    go_wp2_with fail
    refine CP.mono ?_
    rintro e w3 (⟨hy, -⟩ | ⟨-, rfl, B3⟩)
    · exact absurd hy (unhide HM)
    have BB3 := below_trans' BB2 B3
    clear c0 c1 c2 c3 c4 HZ2 CP B3 BB2
    cases fw with
    | false =>
      go_wp2
      go_ret
      exact ⟨rfl, BB3⟩
    | true =>
      go_wp2
      go_ret
      exact ⟨rfl, BB3⟩
  have HM := hide hM
  obtain ⟨l, hl⟩ : ∃ l, F.wrap 83 (J.inner s so) = l := ⟨_, rfl⟩
  have HBT : Hid (V.Byt l) := hide (by rw [← hl]; exact wrap_byt9 hM)
  have HU := hide (fun (g : Sg) (so' : Bool) (er : Int) (hu : UnP l g so' er) => (unp_wrap hM (by rw [hl]; exact hu)).1)
  have HL := hide hl
  have hll : l.length ≤ 65547 := by
    rw [← hl, F.wrap_in hM.bytes, F.frame_len]
    have := (V.put_len (J.inner s so).length).2
    have := hM.bytes
    omega
  rw [hl] at CP
  clear hM hl
  go_wp2_with fail
  refine CP.mono ?_
  rintro e w3 (⟨-, v3, rfl, O3, B3⟩ | ⟨hn, -⟩)
  case inr => exact absurd (unhide HM) hn
  obtain ⟨pa, pc, hv3, -⟩ := id (Sl.owned O3)
  subst hv3
  have HA3 := hide (box_below (unhide HA2) B3)
  have BB3 := below_trans' BB2 B3
  have sz2 := BB2.size
  obtain ⟨B, hB⟩ : ∃ B, B = w2.heap.size := ⟨_, rfl⟩
  rw [← hB] at O3 B3
  have hwB : w.heap.size + 1 < B := by
    rw [hB]
    exact (Array.getElem?_eq_some_iff.1 (unhide HA2)).1
  have HBB := hide hB
  clear c0 c1 c2 c3 c4 HZ2 CP BB2 HA2 hB
  cases fw with
  | false =>
    go_wp2
    go_ret
    exact ⟨rfl, BB3⟩
  | true =>
  by_cases hc0 : at' < 0
  · have hc0' : decide (at' < 0) = true := by simpa using hc0
    go_wp2
    go_ret
    exact ⟨rfl, BB3⟩
  have hc0' : decide (at' < 0) = false := by simp; omega
  by_cases hc1 : (l.length : Int) ≤ at'
  · have hc1' : decide ((l.length : Int) ≤ at') = true := by simpa using hc1
    go_wp2
    go_ret
    exact ⟨rfl, BB3⟩
  have hc1' : decide ((l.length : Int) ≤ at') = false := by simp; omega
  obtain ⟨g, c2, hv2, hg1, hg2⟩ := O3.form (by omega)
  simp only [Value.slice.injEq, true_and] at hv2
  obtain ⟨rfl, rfl⟩ := hv2
  obtain ⟨p, rfl⟩ := Int.eq_ofNat_of_zero_le (show 0 ≤ at' by omega)
  have hp : p < l.length := by omega
  have hpc : p ≤ pc := by
    obtain ⟨_, _, hv, hlc, -⟩ := id (Sl.owned O3)
    simp only [Value.slice.injEq] at hv
    obtain ⟨-, -, rfl⟩ := hv
    omega
  obtain ⟨a2, cap2, hv2, hs2⟩ := sl_take (Sl.owned O3) p (by omega)
  have R2 : ∀ w', (Instr.slice 39 (.slice (some ⟨g, 0, none⟩) l.length pc) none (some (.int .i64 (p : Int))) none).run Try.prog w' = .ok (.slice a2 (l.take p).length cap2) w' := fun w' => by rw [← hv2]; exact run_by_to _ _ pc p _ rfl hpc w'
  have CU := unpack9_any _ (l.take p) w3 hs2 ((unhide HBT).take p)
  obtain ⟨m2, hm2⟩ : ∃ m2, (l.take p).length = m2 := ⟨_, rfl⟩
  rw [hm2] at R2 CU
  have HCUT := hide (fun (g : Sg) (so' : Bool) (er : Int) (hu : UnP (l.take p) g so' er) => un_cut (unhide HM) (p := p) (by rw [unhide HL]; exact hp) (by rw [unhide HL]; exact hu))
  have HCU := hide CU
  clear hs2 hv2 hm2 CU
  go_wp2_with fail
  refine (unhide HCU).mono ?_
  rintro e w4 ⟨iv, kv, lv, tv, so4, er4, g4, rfl, S4, U4, B4⟩
  obtain ⟨ia4, ka4, la4, ta4, ic4, kc4, lc4, tc4, rfl, rfl, rfl, rfl⟩ := S4.shape
  obtain rfl : er4 = 5 := unhide HCUT _ _ _ U4
  obtain ⟨w5, hw5⟩ : ∃ w5, w5 = w4.alloc (.cells #[.slice ia4 g4.ids.length ic4, .slice ka4 g4.keys.length kc4, .slice la4 g4.lens.length lc4, .slice ta4 g4.ts.length tc4, .bool so4] 31) := ⟨_, rfl⟩
  have B5 : Below w4.heap.size w4 w5 := by rw [hw5]; exact below_alloc _ _
  have O5 := own_below (own_below O3 B4) B5
  have BB5 := below_trans' (below_trans' BB3 B4) B5
  have HA5 := hide (box_below (box_below (unhide HA3) B4) B5)
  have HW5 := hide hw5
  have HO5 := hide O5
  have sz5 : B ≤ w5.heap.size := by have := (O5.lt g rfl).2; omega
  clear hw5 S4 U4 B4 B5 O3 BB3 HA3 O5 HCU HCUT B3
  go_wp2
  rw [← unhide HW5]
  go_loopw [13, 14] (fun tv iv wr => ∃ (i acc : Nat) (cur : List Int), i ≤ 4 ∧ p + i ≤ l.length ∧ iv = .int .i64 i ∧ tv = .bool (decide (acc ≠ 0)) ∧ F.Turned l cur p i acc ∧ Hid (acc = 0 → cur = l) ∧ wr.ownsRow B 5 1 (.slice (some ⟨g, 0, none⟩) l.length pc) l.length (cur.map (Value.int .u8)) ∧ Below B w5 wr) (fun _ iv _ => 4 - (intOf iv).toNat)
  case atStart => exact ⟨0, 0, l, by omega, by omega, rfl, rfl, F.Turned.start p (unhide HBT), hide (fun _ => rfl), unhide HO5, Below.refl _ _⟩
  case round =>
    obtain ⟨i, acc, cur, hi4, hpi, rfl, rfl, htu, HSA, hown, hbel⟩ := hrel
    have hcl : cur.length = l.length := htu.len
    have HCL := hide hcl
    have HTU := hide htu
    clear htu
    by_cases hlt : i < 4 ∧ p + i < l.length
    · obtain ⟨hi, hpl⟩ := hlt
      have t1 : decide ((i : Int) < 4) = true := by simp; omega
      have t2 : decide ((p : Int) + (i : Int) < (l.length : Int)) = true := by simp; omega
      obtain ⟨c, hce⟩ : ∃ c, c = cur[p + i]'(by omega) := ⟨_, rfl⟩
      obtain ⟨y, hye⟩ : ∃ y, y = [e0, e1, e2, e3].getD i 0 := ⟨_, rfl⟩
      have k1 : wr.cell? ⟨g, p + i, none⟩ = some (.int .u8 c) := by
        rw [hown.cellAt (p + i) (by omega), hce]
        simp [show p + i < cur.length by omega]
      have k2 : wr.cell? ⟨w.heap.size + 1, i, none⟩ = some (.int .u8 y) := by
        rw [hbel.cell (p := ⟨w.heap.size + 1, i, none⟩) hwB, hye]
        match i, hi with
        | 0, _ => exact box_cell (unhide HA5) rfl
        | 1, _ => exact box_cell (unhide HA5) rfl
        | 2, _ => exact box_cell (unhide HA5) rfl
        | 3, _ => exact box_cell (unhide HA5) rfl
      have k3 : wr.frozen? ⟨g, p + i, none⟩ = false := hown.frozenAt _
      have bc : 0 ≤ c ∧ c ≤ 255 := by rw [hce]; exact (unhide HTU).byt _ (List.getElem_mem _)
      have by' : 0 ≤ y ∧ y ≤ 255 := by
        apply be
        rw [hye]
        match i, hi with
        | 0, _ => simp
        | 1, _ => simp
        | 2, _ => simp
        | 3, _ => simp
      have HTM : Hid (F.Turned l (cur.set (p + i) (C.x2 c y)) p (i + 1) (acc + 256 ^ i * y.toNat)) := by
        rw [hce]
        exact (unhide HTU).more by' (by omega)
      have hpw : 0 < 256 ^ i := Nat.pow_pos (by omega)
      have HSM : Hid (acc + 256 ^ i * y.toNat = 0 → cur.set (p + i) (C.x2 c y) = l) := hide (fun h0 => by
        have ha : acc = 0 := by omega
        have hy : y = 0 := by
          have : 256 ^ i * y.toNat = 0 := by omega
          rcases Nat.mul_eq_zero.1 this with h | h
          · omega
          · omega
        rw [hy, x2_zero bc, hce, List.set_getElem_self]
        exact unhide HSA ha)
      have HX := hide (xor_u8' bc by')
      have hgne : g ≠ w.heap.size + 1 := by omega
      clear hce hye hcl
      have i0 : (0 : Int) ≤ (i : Int) := Int.natCast_nonneg _
      have i1 : (i : Int) < 4 := by omega
      have p0 : (0 : Int) ≤ (p : Int) + (i : Int) := by omega
      have p1 : (p : Int) + (i : Int) < (l.length : Int) := by omega
      have hwr : IntKind.i64.wrap ((p : Int) + (i : Int)) = (p : Int) + (i : Int) := by rw [IntKind.wrap_i64]; omega
      have hnt : ((p : Int) + (i : Int)).toNat = p + i := by omega
      have hlr : Below B w5 (wr.setCell ⟨g, p + i, none⟩ (.int .u8 (bits .xor .u8 c y))) := hbel.setCell hg1 _
      have hlo : (wr.setCell ⟨g, p + i, none⟩ (.int .u8 (bits .xor .u8 c y))).ownsRow B 5 1 (.slice (some ⟨g, 0, none⟩) l.length pc) l.length ((cur.set (p + i) (C.x2 c y)).map (Value.int .u8)) := by
        rw [← unhide HX, List.map_set]
        exact (hown.stored (p + i) _).1
      have k4 : (wr.setCell ⟨g, p + i, none⟩ (.int .u8 (bits .xor .u8 c y))).cell? ⟨w.heap.size + 1, i, none⟩ = some (.int .u8 y) := by
        rw [World.cell?_setCell_other _ _ _ _ (by simp only [ne_eq, Addr.mk.injEq, not_and]; exact fun h => absurd h hgne)]
        exact k2
      clear hown HTU
      by_cases hacc : acc = 0
      · have hd : decide (acc ≠ 0) = false := by simp [hacc]
        rw [hd]
        by_cases hy0 : y = 0
        · have hyb : (y != 0) = false := by simp [hy0]
          have ha' : decide (acc + 256 ^ i * y.toNat ≠ 0) = false := by simp [hacc, hy0]
          have HA := hide ha'
          have HY0 := hide hy0
          clear hd hacc ha' hy0
          go_wp2_with fail
          go_region
          go_wp2
          go_roundw
          case rel => exact ⟨i + 1, acc + 256 ^ i * y.toNat, cur.set (p + i) (C.x2 c y), by omega, by omega, by go_num, by rw [unhide HA], unhide HTM, HSM, hlo, hlr.drew⟩
          case measure => simp [intOf]; omega
        · have hyb : (y != 0) = true := by simp [hy0]
          have ha' : decide (acc + 256 ^ i * y.toNat ≠ 0) = true := by
            have h1 : 0 < 256 ^ i * y.toNat := Nat.mul_pos hpw (by omega)
            simp only [ne_eq, decide_eq_true_eq]; omega
          have HA := hide ha'
          clear hd hacc ha' hy0
          go_wp2_with fail
          go_region
          go_wp2
          go_roundw
          case rel => exact ⟨i + 1, acc + 256 ^ i * y.toNat, cur.set (p + i) (C.x2 c y), by omega, by omega, by go_num, by rw [unhide HA], unhide HTM, HSM, hlo, hlr.drew⟩
          case measure => simp [intOf]; omega
      · have hd : decide (acc ≠ 0) = true := by simp [hacc]
        rw [hd]
        have ha' : decide (acc + 256 ^ i * y.toNat ≠ 0) = true := by simp only [ne_eq, decide_eq_true_eq]; omega
        have HA := hide ha'
        clear hd hacc ha'
        go_wp2_with fail
        go_region
        go_wp2
        go_roundw
        case rel => exact ⟨i + 1, acc + 256 ^ i * y.toNat, cur.set (p + i) (C.x2 c y), by omega, by omega, by go_num, by rw [unhide HA], unhide HTM, HSM, hlo, hlr.drew⟩
        case measure => simp [intOf]; omega
    · have T3 : Sl .u8 wr (.slice (some ⟨g, 0, none⟩) l.length pc) cur := by
        rw [show l.length = cur.length from (unhide HCL).symm] at hown ⊢
        exact Sl.owned hown
      have B3 : Below w.heap.size w wr := BB5.trans (hbel.mono (by omega))
      have bcur := (unhide HTU).byt
      clear hown hbel hcl
      by_cases hacc : acc = 0
      · have hd : decide (acc ≠ 0) = false := by simp [hacc]
        rw [hd]
        have HER : Hid (∀ (g : Sg) (so' : Bool) (er : Int), UnP cur g so' er → er = 0) := hide (fun g so' er hu => unhide HU g so' er (by rw [← unhide HSA hacc]; exact hu))
        clear hd hacc
        by_cases hi : i < 4
        · have t1 : decide ((i : Int) < 4) = true := by simp; omega
          have t2 : decide ((p : Int) + (i : Int) < (l.length : Int)) = false := by simp; omega
          clear hlt
          go_wp2_with fail
          refine (unpack9_any _ cur wr T3 bcur).mono ?_
          rintro e w7 ⟨iv, kv, lv, tv, so7, er7, g7, rfl, S7, U7, B7⟩
          obtain ⟨ia7, ka7, la7, ta7, ic7, kc7, lc7, tc7, rfl, rfl, rfl, rfl⟩ := S7.shape
          obtain rfl : er7 = 0 := unhide HER _ _ _ U7
          have BB7 := below_trans' B3 B7
          clear S7 U7 B7 T3
          go_wp2
          go_ret
          exact ⟨rfl, below_all BB7 _⟩
        · have t1 : decide ((i : Int) < 4) = false := by simp; omega
          clear hlt
          go_wp2_with fail
          refine (unpack9_any _ cur wr T3 bcur).mono ?_
          rintro e w7 ⟨iv, kv, lv, tv, so7, er7, g7, rfl, S7, U7, B7⟩
          obtain ⟨ia7, ka7, la7, ta7, ic7, kc7, lc7, tc7, rfl, rfl, rfl, rfl⟩ := S7.shape
          obtain rfl : er7 = 0 := unhide HER _ _ _ U7
          have BB7 := below_trans' B3 B7
          clear S7 U7 B7 T3
          go_wp2
          go_ret
          exact ⟨rfl, below_all BB7 _⟩
      · have hd : decide (acc ≠ 0) = true := by simp [hacc]
        rw [hd]
        have hn := un_turned (unhide HM) (by rw [unhide HL]; exact unhide HTU) hi4 hacc
        clear hd hacc
        rcases hn with hn | hn
        · have HER := hide hn
          clear hn
          by_cases hi : i < 4
          · have t1 : decide ((i : Int) < 4) = true := by simp; omega
            have t2 : decide ((p : Int) + (i : Int) < (l.length : Int)) = false := by simp; omega
            clear hlt
            go_wp2_with fail
            refine (unpack9_any _ cur wr T3 bcur).mono ?_
            rintro e w7 ⟨iv, kv, lv, tv, so7, er7, g7, rfl, S7, U7, B7⟩
            obtain ⟨ia7, ka7, la7, ta7, ic7, kc7, lc7, tc7, rfl, rfl, rfl, rfl⟩ := S7.shape
            obtain rfl : er7 = 5 := unhide HER _ _ _ U7
            have BB7 := below_trans' B3 B7
            clear S7 U7 B7 T3
            go_wp2
            go_ret
            exact ⟨rfl, below_all BB7 _⟩
          · have t1 : decide ((i : Int) < 4) = false := by simp; omega
            clear hlt
            go_wp2_with fail
            refine (unpack9_any _ cur wr T3 bcur).mono ?_
            rintro e w7 ⟨iv, kv, lv, tv, so7, er7, g7, rfl, S7, U7, B7⟩
            obtain ⟨ia7, ka7, la7, ta7, ic7, kc7, lc7, tc7, rfl, rfl, rfl, rfl⟩ := S7.shape
            obtain rfl : er7 = 5 := unhide HER _ _ _ U7
            have BB7 := below_trans' B3 B7
            clear S7 U7 B7 T3
            go_wp2
            go_ret
            exact ⟨rfl, below_all BB7 _⟩
        · have HER := hide hn
          clear hn
          by_cases hi : i < 4
          · have t1 : decide ((i : Int) < 4) = true := by simp; omega
            have t2 : decide ((p : Int) + (i : Int) < (l.length : Int)) = false := by simp; omega
            clear hlt
            go_wp2_with fail
            refine (unpack9_any _ cur wr T3 bcur).mono ?_
            rintro e w7 ⟨iv, kv, lv, tv, so7, er7, g7, rfl, S7, U7, B7⟩
            obtain ⟨ia7, ka7, la7, ta7, ic7, kc7, lc7, tc7, rfl, rfl, rfl, rfl⟩ := S7.shape
            obtain rfl : er7 = 6 := unhide HER _ _ _ U7
            have BB7 := below_trans' B3 B7
            clear S7 U7 B7 T3
            go_wp2
            go_ret
            exact ⟨rfl, below_all BB7 _⟩
          · have t1 : decide ((i : Int) < 4) = false := by simp; omega
            clear hlt
            go_wp2_with fail
            refine (unpack9_any _ cur wr T3 bcur).mono ?_
            rintro e w7 ⟨iv, kv, lv, tv, so7, er7, g7, rfl, S7, U7, B7⟩
            obtain ⟨ia7, ka7, la7, ta7, ic7, kc7, lc7, tc7, rfl, rfl, rfl, rfl⟩ := S7.shape
            obtain rfl : er7 = 6 := unhide HER _ _ _ U7
            have BB7 := below_trans' B3 B7
            clear S7 U7 B7 T3
            go_wp2
            go_ret
            exact ⟨rfl, below_all BB7 _⟩
end Go.Proofs.Ytonhehhmnobciaa
