/-
  PolicyForce: forced, there are at most so many segments, if none is busy, and nothing dead.
-/
import Derived.Test.YtfniphaehggcgaaQ21
namespace Go.Proofs.Ytfniphaehggcgaa
set_option maxRecDepth 100000
open Go.RowKit Go.Deep

namespace Z
theorem force_came {L : List Sz} {n : Int} (h : Ready L) (hn : 1 ≤ n) (hl : lives L ≤ 64) (hb : ∀ s ∈ L, s.gen ≤ 1073741824 ∧ s.busy = false) : ∃ x, after true L (prop false L (forceG n L)) = x ∧ (x.length : Int) ≤ n ∧ lives x = lives L ∧ (∀ s ∈ x, s.dead = 0) ∧ Fit x := by
  have hG := force_grp h.2.2 h.2.1 hn hl
  have hp := prop_len (half := false) h hG
  have hg := zgreat_le (L := L) (m := 1073741824) (fun s hs => (hb s hs).1) (by omega)
  obtain ⟨x, h1, -, hc⟩ := prop_came (half := false) h hG (by omega)
  refine ⟨x, h1, ?_, hc.lives, fun s hs => ?_, hc.go.len, hc.go.ok⟩
  · have hlen := hc.len
    have e1 : (prop false L (forceG n L)).flatten.length = (forceG n L).flatten.length + (alone false L (forceG n L)).length := by
      rw [prop_flat]; simp only [gens, List.length_map, List.length_append]
    have e2 : (prop false L (forceG n L)).length = (forceG n L).length + (alone false L (forceG n L)).length := by
      rw [prop_eq]; simp
    have hid : L.filter idle = L := List.filter_eq_self.2 fun s hs => by simp [idle, (hb s hs).2]
    by_cases hle : (L.length : Int) ≤ n
    · have e3 : forceG n L = [] := by rw [forceG, hid, if_pos hle]
      rw [e3] at e1 e2 hlen
      simp only [List.flatten_nil, List.length_nil] at e1 e2
      rw [e3] at hc
      omega
    · have e3 : forceG n L = [L.take (L.length - n.toNat + 1)] := by rw [forceG, hid, if_neg hle]
      have e4 : (forceG n L).flatten.length = L.length - n.toNat + 1 := by
        rw [e3]
        simp only [List.flatten_cons, List.flatten_nil, List.append_nil, List.length_take]
        omega
      have e5 : (forceG n L).length = 1 := by rw [e3]; rfl
      omega
  · rcases hc.mem s hs with ⟨k1, k2⟩ | ⟨k1, -, -⟩
    · have h9 := (h.2.1 s k1).2.2.1
      by_cases h0 : 0 < s.dead
      · exfalso
        refine k2 ?_
        rw [prop_flat]
        unfold gens
        rw [List.map_append, List.mem_append]
        by_cases hm : s.gen ∈ gens (forceG n L).flatten
        · exact .inl hm
        · exact .inr (List.mem_map.2 ⟨s, alone_mem.2 ⟨k1, (hb s k1).2, by simp [crit, h0], hm⟩, rfl⟩)
      · omega
    · exact k1
end Z

set_option maxRecDepth 100000 in
set_option maxHeartbeats 8000000 in
theorem policyForce_walk (v : Value) (L : List Sz) (n : Int) (w : World) (h : Zl w v L) (hn9 : n ≤ 9223372036854775807) :
    Calls Try.prog 7 #[v, .int .i64 n] w fun e w' => e = .returned (.bool true) ∧ Below w.heap.size w w' := by
  obtain ⟨r, hr⟩ : ∃ r : Bool, r = true ↔ Z.Ready L := by
    by_cases hf : Z.Ready L
    · exact ⟨true, fun _ => hf, fun _ => rfl⟩
    · exact ⟨false, (fun h => by cases h), fun h => absurd h hf⟩
  have CM := fun w1 (hb : Below w.heap.size w w1) => zmay_any v L w1 (h.below hb) r hr
  have HR := hide hr
  have HV := hide h
  have hll9 : L.length ≤ 9223372036854775807 := by
    obtain ⟨a, cap, -, h1, h2, -⟩ := h.open
    omega
  obtain ⟨a, cap, rfl, -⟩ := h.open
  clear hr h
  go_enter Try.func7, Try.ntmps7
  go_wp2_with fail
  refine (awake12_any _).mono ?_
  rintro e w1 ⟨rfl, B1⟩
  by_cases h30 : 30 < L.length
  · have h30' : decide ((30 : Int) < (L.length : Int)) = true := by simp; omega
    clear CM
    go_wp2
    go_ret
    exact ⟨rfl, B1⟩
  have h30' : decide ((30 : Int) < (L.length : Int)) = false := by simp; omega
  go_wp2_with fail
  refine (CM _ B1).mono ?_
  rintro e w2 ⟨rfl, B2⟩
  have BB2 := below_trans' B1 B2
  clear CM B1 B2
  cases r with
  | false =>
    go_wp2
    go_ret
    exact ⟨rfl, BB2⟩
  | true =>
    by_cases hn : n < 1
    · have hn' : decide (n < 1) = true := by simpa using hn
      go_wp2
      go_ret
      exact ⟨rfl, BB2⟩
    have hn' : decide (n < 1) = false := by simpa using hn
    have hRdy := (unhide HR).1 rfl
    have HRD := hide hRdy
    clear hRdy
    go_wp2
    go_loopw [6] (fun iv wr => ∃ k : Nat, k ≤ L.length ∧ iv = .int .i64 k ∧ Hid (∀ i s, i < k → L[i]? = some s → s.gen ≤ 1073741824 ∧ s.busy = false) ∧ Below w.heap.size w wr) (fun iv _ => L.length - (intOf iv).toNat)
    case atStart => exact ⟨0, Nat.zero_le _, rfl, hide (fun i s hi => by omega), BB2⟩
    case round =>
      clear BB2
      obtain ⟨k, hk, rfl, HA, hbel⟩ := hrel
      by_cases hlt : k < L.length
      · obtain ⟨a', c', hv', -, -, -, ho⟩ := Zl.open (Kl.below (unhide HV) hbel)
        simp only [Value.slice.injEq, true_and] at hv'
        obtain ⟨rfl, rfl⟩ := hv'
        obtain ⟨b, off, rfl, hb, hc⟩ := ho (by omega)
        obtain ⟨s, hx⟩ : ∃ x, L[k]? = some x := ⟨L[k], List.getElem?_eq_getElem hlt⟩
        obtain ⟨c0, c1, c2, c3⟩ := hc k s hx
        have HX := hide hx
        clear ho hc hx
        by_cases hg : 1073741824 < s.gen
        · have hg' : decide (1073741824 < s.gen) = true := by simpa using hg
          go_wp2
          go_ret
          exact ⟨rfl, hbel⟩
        have hg' : decide (1073741824 < s.gen) = false := by simpa using hg
        cases hbz : s.busy with
        | true =>
          rw [hbz] at c3
          go_wp2
          go_ret
          exact ⟨rfl, hbel⟩
        | false =>
          rw [hbz] at c3
          have HB := hide hbz
          clear hbz
          go_wp2
          go_roundw
          case rel =>
            refine ⟨k + 1, by omega, by go_num, hide (fun i z hi hz => ?_), hbel⟩
            by_cases e : i = k
            · subst e
              rw [unhide HX] at hz
              cases hz
              exact ⟨by omega, unhide HB⟩
            · exact unhide HA i z (by omega) hz
          case measure => simp [intOf]; omega
      · have hall : ∀ s ∈ L, s.gen ≤ 1073741824 ∧ s.busy = false := fun s hs => by
          obtain ⟨i, hi⟩ := List.mem_iff_getElem?.1 hs
          exact unhide HA i s (by have := (List.getElem?_eq_some_iff.1 hi).1; omega) hi
        have CL2 := fun w3 (hb : Below w.heap.size w w3) => rlive_any _ L w3 (Kl.below (unhide HV) hb) (unhide HRD).fit
        obtain ⟨V, hV⟩ : ∃ n, Z.lives L = n := ⟨_, rfl⟩
        rw [hV] at CL2
        have HALL := hide hall
        clear hall HA
        go_wp2_with fail
        refine (CL2 _ hbel).mono ?_
        rintro e w3 ⟨rfl, B3⟩
        have BB3 := below_trans' hbel B3
        clear B3
        by_cases h64 : 64 < V
        · have h64' : decide (64 < V) = true := by simpa using h64
          clear CL2
          go_wp2
          go_ret
          exact ⟨rfl, BB3⟩
        have h64' : decide (64 < V) = false := by simpa using h64
        obtain ⟨x, hx1, hx2, hx3, hx4, hx5⟩ := Z.force_came (unhide HRD) (n := n) (by omega) (by omega) (unhide HALL)
        have CF := fun w4 (hb : Below w.heap.size w w4) => force_any _ L n w4 (Kl.below (unhide HV) hb) hn9 true true ⟨fun _ => unhide HRD, fun _ => rfl⟩ ⟨fun _ => by omega, fun _ => rfl⟩
        simp only [Bool.and_self, if_true] at CF
        obtain ⟨P, hP⟩ : ∃ P, Z.prop false L (Z.forceG n L) = P := ⟨_, rfl⟩
        rw [hP] at CF hx1
        have CA := fun w4 u (hb : Below w.heap.size w w4) (hu : Tl w4 u P) => after_any _ u L P w4 (Kl.below (unhide HV) hb) hu true ⟨fun _ => unhide HRD, fun _ => rfl⟩
        rw [hx1] at CA
        have CL1 := fun w4 v4 (hz : Zl w4 v4 x) => rlive_any v4 x w4 hz hx5
        rw [hx3, hV] at CL1
        have HX4 := hide hx4
        have hxl : x.length ≤ 16 := hx5.1
        have q9 : decide ((x.length : Int) ≤ n) = true := by simpa using hx2
        have q8 : (V == V) = true := by simp
        have HVV := hide hV
        clear hx1 hx3 hx4 hx5 hP hbel hV hx2
        go_wp2_with fail
        refine (CF _ BB3).mono ?_
        rintro e w4 ⟨v4, rfl, T4, B4⟩
        have BB4 := below_trans' BB3 B4
        obtain ⟨a4, c4, rfl, -⟩ := T4.at
        have CA4 := CA _ _ BB4 T4
        clear CF T4 B4 BB3 CA
        go_wp2_with fail
        refine CA4.mono ?_
        rintro e w5 ⟨v5, rfl, Z5, B5⟩
        have BB5 := below_trans' BB4 B5
        obtain ⟨a5, c5, rfl, -⟩ := Zl.open Z5
        have HZ5 := hide Z5
        clear CA4 B5 Z5 BB4
        go_wp2
        go_loopw [8] (fun iv wr => ∃ k : Nat, k ≤ x.length ∧ iv = .int .i64 k ∧ Below w5.heap.size w5 wr) (fun iv _ => x.length - (intOf iv).toNat)
        case atStart => exact ⟨0, Nat.zero_le _, rfl, Below.refl _ _⟩
        case round =>
          obtain ⟨k, hk, rfl, hbel⟩ := hrel
          have BBr := below_trans' BB5 hbel
          by_cases hlt : k < x.length
          · obtain ⟨a', c', hv', -, -, -, ho⟩ := Zl.open (Kl.below (unhide HZ5) hbel)
            simp only [Value.slice.injEq, true_and] at hv'
            obtain ⟨rfl, rfl⟩ := hv'
            obtain ⟨b, off, rfl, hb, hc⟩ := ho (by omega)
            obtain ⟨s, hx⟩ : ∃ y, x[k]? = some y := ⟨x[k], List.getElem?_eq_getElem hlt⟩
            obtain ⟨c0, c1, c2, c3⟩ := hc k s hx
            rw [unhide HX4 s (List.mem_of_getElem? hx)] at c2
            clear ho hc hx c0 c1 c3
            go_wp2
            go_roundw
            case rel => exact ⟨k + 1, by omega, by go_num, hbel⟩
            case measure => simp [intOf]; omega
          · have CL1r := CL1 _ _ (Kl.below (unhide HZ5) hbel)
            clear CL1
            go_wp2_with fail
            refine CL1r.mono ?_
            rintro e w6 ⟨rfl, B6⟩
            have BB6 := below_trans' BBr B6
            clear CL1r B6
            go_wp2_with fail
            refine (CL2 _ BB6).mono ?_
            rintro e w7 ⟨rfl, B7⟩
            have BB7 := below_trans' BB6 B7
            clear CL2 B7 BB6
            go_wp2
            go_ret
            exact ⟨rfl, BB7⟩
end Go.Proofs.Ytfniphaehggcgaa
