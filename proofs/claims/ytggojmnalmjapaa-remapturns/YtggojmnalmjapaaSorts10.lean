/-
  RemapSorts' walk.
-/
import Derived.Test.YtggojmnalmjapaaAwake10
import Derived.Deep.QuietTactic
import Derived.BigQuiet
namespace Go.Proofs.Ytggojmnalmjapaa
set_option maxRecDepth 100000
open Go.RowKit Go.Deep

/-- What Order tells: an order, each place ahead of the next one. -/
theorem R.order_facts (keys : List Int) (ids : List ByteArray) (h : keys.length = ids.length) (h1 : keys.length ≤ 1100) :
    ∃ L : List Nat, R.order keys ids = L.map (fun i : Nat => (i : Int)) ∧ L.length = keys.length ∧ R.Good (L.map (fun i : Nat => (i : Int))) ∧ (∀ (i a : Nat), L[i]? = some a → a < keys.length) ∧ ∀ (i a b : Nat), L[i]? = some a → L[i + 1]? = some b → R.lt keys ids a b = true := by
  have hs := R.ord_sorted keys ids keys.length
  have ho := hs.ord
  rw [List.length_map] at ho
  refine ⟨R.ord keys ids keys.length, by unfold R.order; rw [if_pos ⟨h, h1⟩], ho.1, ⟨by rw [List.length_map]; omega, ho.2⟩, fun i a ha => by simpa using hs.2.mem_iff.1 (List.mem_of_getElem? ha), fun i a b ha hb => ?_⟩
  obtain ⟨i1, e1⟩ := List.getElem?_eq_some_iff.1 ha
  obtain ⟨i2, e2⟩ := List.getElem?_eq_some_iff.1 hb
  have := List.pairwise_iff_getElem.1 hs.1 i (i + 1) i1 i2 (by omega)
  rwa [e1, e2] at this

theorem ne_toList10 {x y : ByteArray} (h : x ≠ y) : (x.toList == y.toList) = false := by
  rw [K.eq_to]; simpa using h

set_option maxHeartbeats 8000000 in
theorem remapSorts_walk (CO : OrderC) (v0 v1 : Value) (keys : List Int) (ids : List ByteArray) (w : World) (h0 : Il w v0 keys) (h1 : Gl .string w v1 ids) :
    Calls Try.prog 8 #[v0, v1] w fun e w' => e = .returned (.bool true) ∧ Below w.heap.size w w' := by
  obtain ⟨a0, c0, rfl, -, m0, -⟩ := h0.open
  obtain ⟨a1, c1, rfl, -, m1, -⟩ := h1.open
  go_enter Try.func8, Try.ntmps8
  go_wp2_with fail
  refine (awake10_of CO _).mono ?_
  rintro e w1 ⟨rfl, B1⟩
  have G0 := h0.below B1
  have G1 := h1.below B1
  clear h0 h1
  go_wp2_with fail
  refine (names10_any _ ids _ G1).mono ?_
  rintro e w2 ⟨⟨f, rfl, -⟩, rfl⟩
  cases f with
  | false =>
    go_wp2
    go_ret
    exact ⟨rfl, B1⟩
  | true =>
  by_cases l0 : (200 : Int) < (keys.length : Int)
  · go_wp2
    go_ret
    exact ⟨rfl, B1⟩
  by_cases hll : ids.length = keys.length
  case neg =>
    have hne : ((ids.length : Int) != (keys.length : Int)) = true := by simp; omega
    clear hll
    go_wp2
    go_ret
    exact ⟨rfl, B1⟩
  obtain ⟨L, hL, hlen, hgd, hbd, hup⟩ := R.order_facts keys ids hll.symm (by omega)
  rw [hll] at G1 ⊢
  have HLL := hide hll
  have C1 := CO _ _ keys ids w2 G0 G1
  rw [hL] at C1
  obtain ⟨X, hX⟩ : ∃ X : List Int, L.map (fun i : Nat => (i : Int)) = X := ⟨_, rfl⟩
  have hXl : X.length = keys.length := by rw [← hX, List.length_map, hlen]
  have hXa : ∀ (i a : Nat), L[i]? = some a → X[i]? = some (a : Int) := fun i a h => by rw [← hX, List.getElem?_map, h]; rfl
  rw [hX] at hgd C1
  have C2 := hide (fun v' w' (G : Il w' v' X) => by have := turn_any v' X w' G; rwa [R.turn_good hgd] at this)
  have hTl : (R.trn X).length = keys.length := by rw [R.trn_len, hXl]
  obtain ⟨T, hT⟩ : ∃ T, R.trn X = T := ⟨_, rfl⟩
  rw [hT] at C2 hTl
  have HB := hide hbd
  have HU := hide hup
  have HA := hide hXa
  have HL := hide hlen
  clear hT hX hL hgd hbd hup hXa hlen hll
  have HXL := hide hXl
  have HTL := hide hTl
  clear hXl hTl
  go_wp2_with fail
  refine C1.mono ?_
  rintro e w3 ⟨u3, rfl, O3, B3⟩
  have I3 : Il w3 u3 X := Gl.owned O3
  have BB3 := below_trans' B1 B3
  have G0 := G0.below B3
  have G1 := G1.below B3
  obtain ⟨a3, c3, rfl, -, m3, -⟩ := I3.open
  rw [unhide HXL] at I3 ⊢
  clear O3 B3 B1 C1
  go_wp2_with fail
  refine (unhide C2 _ _ I3).mono ?_
  rintro e w4 ⟨u4, rfl, O4, B4⟩
  have I4 : Il w4 u4 T := Gl.owned O4
  have BB4 := below_trans' BB3 B4
  have G0 := G0.below B4
  have G1 := G1.below B4
  have I3 := I3.below B4
  obtain ⟨a4, c4, rfl, -, m4, -⟩ := I4.open
  rw [unhide HTL]
  obtain ⟨a3', c3', e3, -, -, -, o3⟩ := I3.open
  obtain ⟨a0', c0', e0, -, -, -, o0⟩ := G0.open
  obtain ⟨a1', c1', e1, -, -, -, o1⟩ := G1.open
  rw [unhide HLL] at e1
  rw [unhide HXL] at e3
  simp only [Value.slice.injEq, true_and] at e3 e0 e1
  obtain ⟨rfl, rfl⟩ := e3
  obtain ⟨rfl, rfl⟩ := e0
  obtain ⟨rfl, rfl⟩ := e1
  rw [unhide HXL] at o3
  rw [unhide HLL] at o1
  clear O4 B4 BB3 C2 I4 I3 G0 G1 HXL HTL
  go_wp2
  go_loopw [8] (fun iv wr => ∃ k : Nat, k ≤ keys.length ∧ iv = .int .i64 ((k : Int) + 1) ∧ Below w4.heap.size w4 wr) (fun iv _ => keys.length - (intOf iv).toNat)
  case atStart => exact ⟨0, Nat.zero_le _, by simp, Below.refl _ _⟩
  case round =>
    obtain ⟨k, hk, rfl, hbel⟩ := hrel
    by_cases hlt : k + 1 < keys.length
    · obtain ⟨a, ha⟩ : ∃ x, L[k]? = some x := ⟨_, List.getElem?_eq_getElem (by have := unhide HL; omega)⟩
      obtain ⟨b, hb⟩ : ∃ x, L[k + 1]? = some x := ⟨_, List.getElem?_eq_getElem (by have := unhide HL; omega)⟩
      have hal := unhide HB _ _ ha
      have hbl := unhide HB _ _ hb
      have hlt2 := R.lt_iff.1 (unhide HU _ _ _ ha hb)
      obtain ⟨p3, f3, rfl, z3, k3⟩ := o3 (by omega)
      obtain ⟨p0, f0, rfl, z0, k0⟩ := o0 (by omega)
      obtain ⟨p1, f1, rfl, z1, k1⟩ := o1 (by omega)
      have q1 := cell10 (k3 _ _ (unhide HA _ _ ha)) hbel z3
      have q2 := cell10 (k3 _ _ (unhide HA _ _ hb)) hbel z3
      obtain ⟨x, hx⟩ : ∃ x, keys[a]? = some x := ⟨_, List.getElem?_eq_getElem hal⟩
      obtain ⟨y, hy⟩ : ∃ x, keys[b]? = some x := ⟨_, List.getElem?_eq_getElem hbl⟩
      obtain ⟨s, hs⟩ : ∃ x, ids[a]? = some x := ⟨_, List.getElem?_eq_getElem (by have := unhide HLL; omega)⟩
      obtain ⟨t, ht⟩ : ∃ x, ids[b]? = some x := ⟨_, List.getElem?_eq_getElem (by have := unhide HLL; omega)⟩
      have q3 := cell10 (k0 _ _ hx) hbel z0
      have q4 := cell10 (k0 _ _ hy) hbel z0
      have q5 := cell10 (k1 _ _ hs) hbel z1
      have q6 := cell10 (k1 _ _ ht) hbel z1
      simp only [List.getD, hx, hy, hs, ht, Option.getD_some] at hlt2
      clear ha hb hx hy hs ht k0 k1 k3 o0 o1 o3 z0 z1 z3
      rcases hlt2 with h9 | ⟨rfl, h9 | ⟨rfl, h9⟩⟩
      · have d1 : decide (y < x) = false := by simp; omega
        have d2 : (x == y) = false := by simp; omega
        clear h9
        go_wp2
        go_quiet (fail)
        go_wp2
        go_roundw
        case rel => exact ⟨k + 1, by omega, by go_num, below_dr hbel nq⟩
        case measure => simp [intOf]; omega
      · have d1 : decide (x < x) = false := by simp
        have d2 : (x == x) = true := by simp
        have d3 : Op.bytesLess s.toList t.toList = true := h9
        have d4 : (s.toList == t.toList) = false := ne_toList10 (fun e => by rw [e, K.lt_irrefl] at h9; cases h9)
        clear h9
        go_wp2
        go_quiet (fail)
        go_wp2
        go_roundw
        case rel => exact ⟨k + 1, by omega, by go_num, below_dr hbel nq⟩
        case measure => simp [intOf]; omega
      · have d1 : decide (x < x) = false := by simp
        have d2 : (x == x) = true := by simp
        have d3 : Op.bytesLess s.toList s.toList = false := K.lt_irrefl s
        have d4 : (s.toList == s.toList) = true := by simp
        have d5 : ¬ b < a := by omega
        clear h9
        go_wp2
        go_quiet (fail)
        go_wp2
        go_roundw
        case rel => exact ⟨k + 1, by omega, by go_num, below_dr hbel nq⟩
        case measure => simp [intOf]; omega
    · clear o0 o1 o3
      go_wp2
      go_ret
      exact ⟨rfl, below_trans' BB4 hbel⟩
end Go.Proofs.Ytggojmnalmjapaa
