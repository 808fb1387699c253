/-
  RemapTable's and RemapTurns' walks.
-/
import Derived.Test.YtggojmnalmjapaaAwake10
namespace Go.Proofs.Ytggojmnalmjapaa
set_option maxRecDepth 100000
open Go.RowKit Go.Deep

set_option maxHeartbeats 4000000 in
theorem remapTable_walk (CO : OrderC) (v0 : Value) (l : List Bool) (n : Int) (w : World) (h0 : Gl .bool w v0 l) :
    Calls Try.prog 6 #[v0, .int .i64 n] w fun e w' => e = .returned (.bool true) ∧ Below w.heap.size w w' := by
  obtain ⟨a0, c0, rfl, -, m0, -⟩ := h0.open
  go_enter Try.func6, Try.ntmps6
  go_wp2_with fail
  refine (awake10_of CO _).mono ?_
  rintro e w1 ⟨rfl, B1⟩
  have G0 := h0.below B1
  clear h0
  by_cases l0 : (64 : Int) < (l.length : Int)
  · go_wp2
    go_ret
    exact ⟨rfl, B1⟩
  by_cases n0 : n < 0
  · go_wp2
    go_ret
    exact ⟨rfl, B1⟩
  by_cases n1 : 1100 < n
  · go_wp2
    go_ret
    exact ⟨rfl, B1⟩
  have hX : R.table l n = R.tab n l := by unfold R.table; rw [if_pos (by omega)]
  obtain ⟨X, hX2⟩ : ∃ X, R.tab n l = X := ⟨_, rfl⟩
  have C1 := table_any _ l n w1 G0
  rw [hX, hX2] at C1
  have hlen : X.length = l.length := by rw [← hX2, R.tab_len]
  have HA := hide (fun (k : Nat) (b : Bool) (h : l[k]? = some b) => by have := R.tab_at h n; rwa [hX2] at this)
  clear hX hX2
  go_wp2_with fail
  refine C1.mono ?_
  rintro e w2 ⟨u2, rfl, O2, B2⟩
  have I2 : Il w2 u2 X := Gl.owned O2
  have BB2 := below_trans' B1 B2
  have G0 := G0.below B2
  obtain ⟨a2, c2, e2, -, m2, -, o2⟩ := I2.open
  obtain ⟨a0', c0', e0, -, -, -, o0⟩ := G0.open
  simp only [Value.slice.injEq, true_and] at e0
  obtain ⟨rfl, rfl⟩ := e0
  rw [hlen] at e2 o2
  subst e2
  clear O2 B2 B1 C1 I2 G0 hlen
  go_wp2
  go_loop [7, 8] (fun nv iv => ∃ (i : Nat) (m : Int), i ≤ l.length ∧ iv = .int .i64 i ∧ nv = .int .i64 m ∧ 0 ≤ m ∧ m ≤ 2000 + (i : Int) ∧ Hid (m = n + (R.cnt (l.take i) : Int))) (fun _ iv => l.length - (intOf iv).toNat)
  case atStart => exact ⟨0, n, Nat.zero_le _, rfl, rfl, by omega, by omega, hide (by simp [R.cnt])⟩
  case round =>
    obtain ⟨i, m, hi, rfl, rfl, hm0, hm1, HM⟩ := hrel
    by_cases hlt : i < l.length
    · obtain ⟨b0, f0, rfl, -, k0⟩ := o0 (by omega)
      obtain ⟨b2, f2, rfl, -, k2⟩ := o2 (by omega)
      obtain ⟨x, hx⟩ : ∃ x, l[i]? = some x := ⟨_, List.getElem?_eq_getElem hlt⟩
      have q0 := k0 i x hx
      have q2 := k2 i _ (unhide HA i x hx)
      have hst := R.cnt_step hx
      have hcl := R.cnt_le (l.take i)
      rw [List.length_take] at hcl
      cases x with
      | true =>
        simp only [if_true] at q2 hst
        rw [← unhide HM] at q2
        have HM2 : Hid (m + 1 = n + (R.cnt (l.take (i + 1)) : Int)) := hide (by rw [hst]; have := unhide HM; omega)
        have hmm : (m != m) = false := by simp
        clear hx k0 k2 o0 o2 hst hcl
        go_wp2
        go_round
        case rel => exact ⟨i + 1, m + 1, by omega, by go_num, by go_num, by omega, by omega, HM2⟩
        case measure => simp [intOf]; omega
      | false =>
        simp only [Bool.false_eq_true, if_false, Nat.add_zero] at q2 hst
        have HM2 : Hid (m = n + (R.cnt (l.take (i + 1)) : Int)) := hide (by rw [hst]; exact unhide HM)
        clear hx k0 k2 o0 o2 hst hcl
        go_wp2
        go_round
        case rel => exact ⟨i + 1, m, by omega, by go_num, rfl, by omega, by omega, HM2⟩
        case measure => simp [intOf]; omega
    · clear o0 o2
      go_wp2
      go_ret
      exact ⟨rfl, BB2⟩

set_option maxHeartbeats 4000000 in
theorem remapTurns_walk (CO : OrderC) (v0 : Value) (p : List Int) (w : World) (h0 : Il w v0 p) :
    Calls Try.prog 7 #[v0] w fun e w' => e = .returned (.bool true) ∧ Below w.heap.size w w' := by
  obtain ⟨a0, c0, rfl, -, m0, -⟩ := h0.open
  by_cases hg : R.Good p
  · have hT := R.turn_good hg
    have hT2 := R.turn_good hg.turn
    rw [R.trn_twice hg.2] at hT2
    have hA := R.thn_own hg.2
    have hB := R.thn_own2 hg.2
    have hlq := R.trn_len p
    obtain ⟨q, hq⟩ : ∃ q, R.trn p = q := ⟨_, rfl⟩
    rw [hq] at hT hT2 hA hB hlq
    have C1 := hide (fun w' (G : Il w' (.slice a0 p.length c0) p) => by have := turn_any _ p w' G; rwa [hT] at this)
    have C2 := hide (fun v' w' (G : Il w' v' q) => by have := turn_any v' q w' G; rwa [hT2] at this)
    obtain ⟨X, hX⟩ : ∃ X, R.nums p.length = X := ⟨_, rfl⟩
    have hlX : X.length = p.length := by rw [← hX, R.nums_len]
    have HN : Hid (∀ i, i < p.length → X[i]? = some (i : Int)) := hide (fun i hi => by rw [← hX]; exact R.nums_at hi)
    have hpl := hg.1
    have C3 := hide (fun v' w' (G : Il w' (.slice a0 p.length c0) p) (H : Il w' v' q) => by have := then_any _ v' p q w' G H (by omega); rwa [hA, hX] at this)
    have C4 := hide (fun v' w' (G : Il w' v' q) (H : Il w' (.slice a0 p.length c0) p) => by have := then_any v' _ q p w' G H (by omega); rwa [hB, hX] at this)
    clear hT hT2 hA hB hq hX hg
    go_enter Try.func7, Try.ntmps7
    go_wp2_with fail
    refine (awake10_of CO _).mono ?_
    rintro e w1 ⟨rfl, B1⟩
    have G0 := h0.below B1
    clear h0
    go_wp2_with fail
    refine (unhide C1 _ G0).mono ?_
    rintro e w2 ⟨u2, rfl, O2, B2⟩
    have I2 : Il w2 u2 q := Gl.owned O2
    have BB2 := below_trans' B1 B2
    have G0 := G0.below B2
    obtain ⟨a2, c2, rfl, -, m2, -⟩ := I2.open
    rw [hlq] at I2 ⊢
    clear O2 B2 B1 C1
    by_cases h200 : (200 : Int) < (p.length : Int)
    · go_wp2
      go_ret
      exact ⟨rfl, BB2⟩
    go_wp2_with fail
    refine (unhide C2 _ _ I2).mono ?_
    rintro e w3 ⟨u3, rfl, O3, B3⟩
    have I3 : Il w3 u3 p := Gl.owned O3
    have BB3 := below_trans' BB2 B3
    have G0 := G0.below B3
    have I2 := I2.below B3
    clear O3 B3 BB2 C2
    go_wp2_with fail
    refine (ints10_b _ _ p p _ I3 G0 true (by simp)).mono ?_
    rintro e w4 ⟨rfl, B4⟩
    have BB4 := below_trans' BB3 B4
    have G0 := G0.below B4
    have I2 := I2.below B4
    clear B4 BB3 I3
    go_wp2_with fail
    refine (unhide C3 _ _ G0 I2).mono ?_
    rintro e w5 ⟨u5, rfl, O5, B5⟩
    have I5 : Il w5 u5 X := Gl.owned O5
    have BB5 := below_trans' BB4 B5
    have G0 := G0.below B5
    have I2 := I2.below B5
    obtain ⟨a5, c5, rfl, -, m5, -⟩ := I5.open
    clear O5 B5 BB4 C3
    go_wp2_with fail
    refine (unhide C4 _ _ I2 G0).mono ?_
    rintro e w6 ⟨u6, rfl, O6, B6⟩
    have I6 : Il w6 u6 X := Gl.owned O6
    have BB6 := below_trans' BB5 B6
    have I5 := I5.below B6
    obtain ⟨a6, c6, rfl, -, m6, -, o6⟩ := I6.open
    obtain ⟨a5', c5', e5, -, -, -, o5⟩ := I5.open
    simp only [Value.slice.injEq, true_and] at e5
    obtain ⟨rfl, rfl⟩ := e5
    rw [hlX] at o5 o6 ⊢
    clear O6 B6 BB5 C4 I2 G0 I5 I6 hlX hlq
    go_wp2
    go_loop [8] (fun iv => ∃ i : Nat, i ≤ p.length ∧ iv = .int .i64 i) (fun iv => p.length - (intOf iv).toNat)
    case atStart => exact ⟨0, Nat.zero_le _, rfl⟩
    case round =>
      obtain ⟨i, hi, rfl⟩ := hrel
      by_cases hlt : i < p.length
      · obtain ⟨b5, f5, rfl, -, k5⟩ := o5 (by omega)
        obtain ⟨b6, f6, rfl, -, k6⟩ := o6 (by omega)
        have q5 := k5 i _ (unhide HN i hlt)
        have q6 := k6 i _ (unhide HN i hlt)
        have hii : ((i : Int) != (i : Int)) = false := by simp
        clear k5 k6 o5 o6
        go_wp2
        go_round
        case rel => exact ⟨i + 1, by omega, by go_num⟩
        case measure => simp [intOf]; omega
      · clear o5 o6
        go_wp2
        go_ret
        exact ⟨rfl, BB6⟩
  · have hT := R.turn_bad hg
    have hne : ((([] : List Int).length : Int) != (p.length : Int)) = true := by
      cases p with
      | nil => exact absurd ⟨by simp, fun i hi => by simp at hi⟩ hg
      | cons x p => simp; omega
    have C1 := hide (fun w' (G : Il w' (.slice a0 p.length c0) p) => by have := turn_any _ p w' G; rwa [hT] at this)
    clear hT hg
    go_enter Try.func7, Try.ntmps7
    go_wp2_with fail
    refine (awake10_of CO _).mono ?_
    rintro e w1 ⟨rfl, B1⟩
    have G0 := h0.below B1
    clear h0
    go_wp2_with fail
    refine (unhide C1 _ G0).mono ?_
    rintro e w2 ⟨u2, rfl, O2, B2⟩
    have I2 : Il w2 u2 [] := Gl.owned O2
    have BB2 := below_trans' B1 B2
    obtain ⟨a2, c2, rfl, -, m2, -⟩ := I2.open
    clear O2 B2 B1 C1 I2 G0
    simp only [List.length_nil] at hne ⊢
    by_cases h200 : (200 : Int) < (p.length : Int)
    · go_wp2
      go_ret
      exact ⟨rfl, BB2⟩
    · go_wp2
      go_ret
      exact ⟨rfl, BB2⟩
end Go.Proofs.Ytggojmnalmjapaa
