/-
  PolicyEnds: policies end: no more times than there are segments, with no proposal then, and no more segments.
-/
import Derived.Test.YtfniphaehggcgaaQ21
namespace Go.Proofs.Ytfniphaehggcgaa
set_option maxRecDepth 100000
open Go.RowKit Go.Deep

set_option maxRecDepth 100000 in
set_option maxHeartbeats 8000000 in
theorem policyEnds_walk (v : Value) (L : List Sz) (per most : Int) (lg : Bool) (w : World) (h : Zl w v L) :
    Calls Try.prog 6 #[v, .agg #[.int .i64 per, .int .i64 most], .bool lg] w fun e w' => e = .returned (.bool true) ∧ Below w.heap.size w w' := by
  obtain ⟨r, hr⟩ : ∃ r : Bool, r = true ↔ Z.Ready L := by
    by_cases hf : Z.Ready L
    · exact ⟨true, fun _ => hf, fun _ => rfl⟩
    · exact ⟨false, (fun h => by cases h), fun h => absurd h hf⟩
  have CM := fun w1 (hb : Below w.heap.size w w1) => zmay_any v L w1 (h.below hb) r hr
  have HR := hide hr
  have HV := hide h
  have hll9 : L.length ≤ 9223372036854775807 := by
    obtain ⟨a, cap, -, h1, h2, -⟩ := h.open
    omega
  obtain ⟨a, cap, rfl, -⟩ := h.open
  obtain ⟨W, hW⟩ : ∃ W, W = w.alloc (.cells #[.int .i64 per, .int .i64 most] 24) := ⟨_, rfl⟩
  have BW : Below w.heap.size w W := by rw [hW]; exact below_alloc _ _
  have b0 : W.cell? ⟨w.heap.size, 0, none⟩ = some (.int .i64 per) := by rw [hW]; exact box_cell (heap_alloc_new w _) rfl
  have b1 : W.cell? ⟨w.heap.size, 1, none⟩ = some (.int .i64 most) := by rw [hW]; exact box_cell (heap_alloc_new w _) rfl
  have HW := hide hW
  clear hr h hW
  go_enter Try.func6, Try.ntmps6
  go_wp2_with fail
  rw [← unhide HW]
  refine (awake12_any _).mono ?_
  rintro e w1 ⟨rfl, B1⟩
  have b0 := cell_keep b0 B1
  have b1 := cell_keep b1 B1
  have BB1 := below_trans' BW B1
  clear B1 BW
  by_cases h30 : 30 < L.length
  · have h30' : decide ((30 : Int) < (L.length : Int)) = true := by simp; omega
    clear CM
    go_wp2
    go_ret
    exact ⟨rfl, BB1⟩
  have h30' : decide ((30 : Int) < (L.length : Int)) = false := by simp; omega
  go_wp2_with fail
  refine (CM _ BB1).mono ?_
  rintro e w2 ⟨rfl, B2⟩
  have b0 := cell_keep b0 B2
  have b1 := cell_keep b1 B2
  have BB2 := below_trans' BB1 B2
  clear CM B2 BB1
  cases r with
  | false =>
    go_wp2
    go_ret
    exact ⟨rfl, BB2⟩
  | true =>
    by_cases g1 : per < 2
    · have g1' : decide (per < 2) = true := by simpa using g1
      go_wp2
      go_ret
      exact ⟨rfl, BB2⟩
    have g1' : decide (per < 2) = false := by simpa using g1
    by_cases g2 : 8 < per
    · have g2' : decide (8 < per) = true := by simpa using g2
      go_wp2
      go_ret
      exact ⟨rfl, BB2⟩
    have g2' : decide (8 < per) = false := by simpa using g2
    by_cases g3 : most < 1
    · have g3' : decide (most < 1) = true := by simpa using g3
      go_wp2
      go_ret
      exact ⟨rfl, BB2⟩
    have g3' : decide (most < 1) = false := by simpa using g3
    by_cases g4 : 64 < most
    · have g4' : decide (64 < most) = true := by simpa using g4
      go_wp2
      go_ret
      exact ⟨rfl, BB2⟩
    have g4' : decide (64 < most) = false := by simpa using g4
    have HP : Hid (Z.Pol per most) := ⟨by omega, by omega⟩
    have hRdy := (unhide HR).1 rfl
    have HRD := hide hRdy
    clear hRdy
    go_wp2
    go_loopw [8] (fun iv wr => ∃ k : Nat, k ≤ L.length ∧ iv = .int .i64 k ∧ Hid (∀ i s, i < k → L[i]? = some s → s.gen ≤ 1073741824) ∧ Below w2.heap.size w2 wr) (fun iv _ => L.length - (intOf iv).toNat)
    case atStart => exact ⟨0, Nat.zero_le _, rfl, hide (fun i s hi => by omega), Below.refl _ _⟩
    case round =>
      obtain ⟨k, hk, rfl, HA, hbel2⟩ := hrel
      have hbel := below_trans' BB2 hbel2
      have b0 := cell_keep b0 hbel2
      have b1 := cell_keep b1 hbel2
      by_cases hlt : k < L.length
      · obtain ⟨a', c', hv', -, -, -, ho⟩ := Zl.open (Kl.below (unhide HV) hbel)
        simp only [Value.slice.injEq, true_and] at hv'
        obtain ⟨rfl, rfl⟩ := hv'
        obtain ⟨b, off, rfl, hb, hc⟩ := ho (by omega)
        obtain ⟨s, hx⟩ : ∃ x, L[k]? = some x := ⟨L[k], List.getElem?_eq_getElem hlt⟩
        obtain ⟨c0, c1, c2, c3⟩ := hc k s hx
        have HX := hide hx
        clear ho hc hx
        by_cases hg : 1073741824 < s.gen
        · have hg' : decide (1073741824 < s.gen) = true := by simpa using hg
          go_wp2
          go_ret
          exact ⟨rfl, hbel⟩
        have hg' : decide (1073741824 < s.gen) = false := by simpa using hg
        go_wp2
        go_roundw
        case rel =>
          refine ⟨k + 1, by omega, by go_num, hide (fun i z hi hz => ?_), hbel2⟩
          by_cases e : i = k
          · subst e
            rw [unhide HX] at hz
            cases hz
            omega
          · exact unhide HA i z (by omega) hz
        case measure => simp [intOf]; omega
      · have hall : ∀ s ∈ L, s.gen ≤ 1073741824 := fun s hs => by
          obtain ⟨i, hi⟩ := List.mem_iff_getElem?.1 hs
          exact unhide HA i s (by have := (List.getElem?_eq_some_iff.1 hi).1; omega) hi
        have CU := until_any _ L per most lg wr (Kl.below (unhide HV) hbel) (unhide HRD) (unhide HP) hall
        have CL2 := fun w3 (hb : Below w.heap.size w w3) => rlive_any _ L w3 (Kl.below (unhide HV) hb) (unhide HRD).fit
        obtain ⟨V, hV⟩ : ∃ n, Z.lives L = n := ⟨_, rfl⟩
        rw [hV] at CL2
        have HVV := hide hV
        clear hall HA hV
        go_wp2_with fail
        refine CU.mono ?_
        rintro e w3 ⟨v3, X, t, rfl, Z3, hui, hpr, -, B3⟩
        have BB3 := below_trans' hbel B3
        have b0 := cell_keep b0 B3
        have b1 := cell_keep b1 B3
        obtain ⟨a3, c3, rfl, -⟩ := Zl.open Z3
        have hRX := hui.ready
        have hlX := hui.lives
        have hxl := hui.len
        have htl := hui.le
        rw [unhide HVV] at hlX
        have HZ3 := hide Z3
        have CTi := fun w4 (hb : Below w3.heap.size w3 w4) => tiered_any _ X per most w4 (Kl.below (unhide HZ3) hb) true true ⟨fun _ => hRX, fun _ => rfl⟩ ⟨fun _ => unhide HP, fun _ => rfl⟩
        have CLo := fun w4 (hb : Below w3.heap.size w3 w4) => logs_any _ X per most w4 (Kl.below (unhide HZ3) hb) true true ⟨fun _ => hRX, fun _ => rfl⟩ ⟨fun _ => unhide HP, fun _ => rfl⟩
        have CMx := fun w4 (hb : Below w3.heap.size w3 w4) => zmay_any _ X w4 (Kl.below (unhide HZ3) hb) true ⟨fun _ => hRX, fun _ => rfl⟩
        have CL1 := fun w4 (hb : Below w3.heap.size w3 w4) => rlive_any _ X w4 (Kl.below (unhide HZ3) hb) hRX.fit
        rw [hlX] at CL1
        simp only [Bool.and_self, if_true] at CTi CLo
        have q1 : decide ((0 : Int) ≤ (t : Int)) = true := by simp
        have q2 : decide ((t : Int) ≤ (L.length : Int)) = true := by simp; omega
        have q3 : decide ((X.length : Int) ≤ (L.length : Int)) = true := by simp; omega
        have q4 : (V == V) = true := by simp
        cases lg with
        | false =>
          have e1 : Z.prop true X (Z.tierG per.toNat most X) = [] := by
            have := hpr
            rw [Z.pr, Z.grps, if_neg (by simp)] at this
            exact this
          rw [e1] at CTi
          clear CU hui hpr hRX hlX Z3 B3 hbel CLo e1
          go_wp2_with fail
          refine (CTi _ (Below.refl _ _)).mono ?_
          rintro e w4 ⟨v4, rfl, T4, B4⟩
          obtain ⟨a4, c4, rfl, -⟩ := T4.at
          have BB4 := below_trans' BB3 B4
          clear CTi T4
          go_wp2_with fail
          refine (CMx _ B4).mono ?_
          rintro e w5 ⟨rfl, B5⟩
          have B45 := below_trans' B4 B5
          have BB5 := below_trans' BB4 B5
          clear CMx B4 B5 BB4
          go_wp2_with fail
          refine (CL1 _ B45).mono ?_
          rintro e w6 ⟨rfl, B6⟩
          have BB6 := below_trans' BB5 B6
          clear CL1 B45 BB5 B6
          go_wp2_with fail
          refine (CL2 _ BB6).mono ?_
          rintro e w7 ⟨rfl, B7⟩
          have BB7 := below_trans' BB6 B7
          clear CL2 B7 BB6
          go_wp2
          go_ret
          exact ⟨rfl, BB7⟩
        | true =>
          have e1 : Z.prop true X (Z.runs per.toNat most X) = [] := by
            have := hpr
            rw [Z.pr, Z.grps, if_pos rfl] at this
            exact this
          rw [e1] at CLo
          clear CU hui hpr hRX hlX Z3 B3 hbel e1
          go_wp2_with fail
          refine (CTi _ (Below.refl _ _)).mono ?_
          rintro e w4 ⟨v4, rfl, T4, B4⟩
          obtain ⟨a4, c4, rfl, -⟩ := T4.at
          have BB4 := below_trans' BB3 B4
          have b0 := cell_keep b0 B4
          have b1 := cell_keep b1 B4
          clear CTi T4
          go_wp2_with fail
          refine (CLo _ B4).mono ?_
          rintro e w8 ⟨v8, rfl, T8, B8⟩
          obtain ⟨a8, c8, rfl, -⟩ := T8.at
          have BB8 := below_trans' BB4 B8
          have B48 := below_trans' B4 B8
          clear CLo T8 BB4 B4 B8
          go_wp2_with fail
          refine (CMx _ B48).mono ?_
          rintro e w5 ⟨rfl, B5⟩
          have B45 := below_trans' B48 B5
          have BB5 := below_trans' BB8 B5
          clear CMx B48 B5 BB8
          go_wp2_with fail
          refine (CL1 _ B45).mono ?_
          rintro e w6 ⟨rfl, B6⟩
          have BB6 := below_trans' BB5 B6
          clear CL1 B45 BB5 B6
          go_wp2_with fail
          refine (CL2 _ BB6).mono ?_
          rintro e w7 ⟨rfl, B7⟩
          have BB7 := below_trans' BB6 B7
          clear CL2 B7 BB6
          go_wp2
          go_ret
          exact ⟨rfl, BB7⟩
end Go.Proofs.Ytfniphaehggcgaa
