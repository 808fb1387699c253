/-
  The contracts of the document's own Policy and May.
-/
import Derived.Test.YtfniphaehggcgaaQ17
import Derived.Test.YtfniphaehggcgaaQ18
namespace Go.Proofs.Ytfniphaehggcgaa
set_option maxRecDepth 100000
open Go.RowKit Go.Deep

theorem rpolicy_any (per most : Int) (w : World) (r : Bool) (hr : r = true ↔ Z.Pol per most) : Calls Try.prog 30 #[.agg #[.int .i64 per, .int .i64 most]] w fun e w' => e = .returned (.bool r) ∧ Below w.heap.size w w' := by
  unfold Z.Pol at hr
  by_cases h0 : 2 ≤ per
  · have g0 : decide (2 ≤ per) = true := by simpa using h0
    by_cases h1 : per ≤ 8
    · have g1 : decide (per ≤ 8) = true := by simpa using h1
      by_cases h2 : 1 ≤ most
      · have g2 : decide (1 ≤ most) = true := by simpa using h2
        by_cases h3 : most ≤ 64
        · have g3 : decide (most ≤ 64) = true := by simpa using h3
          have hrr : r = true := by
            exact hr.2 ⟨⟨by omega, by omega⟩, by omega, by omega⟩
          subst hrr
          clear hr
          go_enter Try.func30, Try.ntmps30
          go_wp2
          go_ret
          exact ⟨rfl, below_alloc _ _⟩
        · have g3 : decide (most ≤ 64) = false := by simpa using h3
          have hrr : r = false := by
            rw [Bool.eq_false_iff]; intro h; have := hr.1 h; omega
          subst hrr
          clear hr
          go_enter Try.func30, Try.ntmps30
          go_wp2
          go_ret
          exact ⟨rfl, below_alloc _ _⟩
      · have g2 : decide (1 ≤ most) = false := by simpa using h2
        have hrr : r = false := by
          rw [Bool.eq_false_iff]; intro h; have := hr.1 h; omega
        subst hrr
        clear hr
        go_enter Try.func30, Try.ntmps30
        go_wp2
        go_ret
        exact ⟨rfl, below_alloc _ _⟩
    · have g1 : decide (per ≤ 8) = false := by simpa using h1
      have hrr : r = false := by
        rw [Bool.eq_false_iff]; intro h; have := hr.1 h; omega
      subst hrr
      clear hr
      go_enter Try.func30, Try.ntmps30
      go_wp2
      go_ret
      exact ⟨rfl, below_alloc _ _⟩
  · have g0 : decide (2 ≤ per) = false := by simpa using h0
    have hrr : r = false := by
      rw [Bool.eq_false_iff]; intro h; have := hr.1 h; omega
    subst hrr
    clear hr
    go_enter Try.func30, Try.ntmps30
    go_wp2
    go_ret
    exact ⟨rfl, below_alloc _ _⟩

set_option maxRecDepth 100000 in
set_option maxHeartbeats 8000000 in
theorem rmay_any (v : Value) (L : List Sz) (w : World) (h : Zl w v L) (r : Bool) (hr : r = true ↔ Z.Ready L) :
    Calls Try.prog 18 #[v] w fun e w' => e = .returned (.bool r) ∧ Below w.heap.size w w' := by
  obtain ⟨a, cap, rfl, h1, h2, hna, ho⟩ := h.open
  clear h
  by_cases hll : 16 < L.length
  · have hr0 : r = false := by
      rw [Bool.eq_false_iff]
      intro h
      have := (hr.1 h).1
      omega
    have hll' : decide ((16 : Int) < (L.length : Int)) = true := by simp; omega
    subst hr0
    clear hr
    go_enter Try.func18, Try.ntmps18
    go_wp2
    go_ret
    exact ⟨rfl, Below.refl _ _⟩
  · have hll' : decide ((16 : Int) < (L.length : Int)) = false := by simp; omega
    have HR := hide hr
    clear hr
    go_enter Try.func18, Try.ntmps18
    go_wp2
    go_loopw [3] (fun iv wr => ∃ k : Nat, k ≤ L.length ∧ iv = .int .i64 k ∧ Hid (∀ i s, i < k → L[i]? = some s → Z.Ok s ∧ s.gen ∉ Z.gens (L.take i)) ∧ Below w.heap.size w wr) (fun iv _ => L.length - (intOf iv).toNat)
    case atStart => exact ⟨0, Nat.zero_le _, rfl, hide (fun i s hi => by omega), Below.refl _ _⟩
    case round =>
      obtain ⟨k, hk, rfl, HA, hbel⟩ := hrel
      by_cases hlt : k < L.length
      · obtain ⟨b, off, rfl, hb, hc⟩ := ho (by omega)
        obtain ⟨s, hx⟩ : ∃ x, L[k]? = some x := ⟨L[k], List.getElem?_eq_getElem hlt⟩
        obtain ⟨e0, e1, e2, e3⟩ := hc k s hx
        have c0 := (hbel.cell (p := ⟨b, off + k * 4, none⟩) hb).trans e0
        have c1 := (hbel.cell (p := ⟨b, off + k * 4 + 1, none⟩) hb).trans e1
        have c2 := (hbel.cell (p := ⟨b, off + k * 4 + 2, none⟩) hb).trans e2
        have HX := hide hx
        have HC := hide hc
        clear hc hx e1 e2 e3 ho
        by_cases h0 : s.gen < 1
        · have g0 : decide (s.gen < 1) = true := by simpa using h0
          have hr0 : r = false := by
            rw [Bool.eq_false_iff]
            intro h
            obtain ⟨⟨k1, k2⟩, ⟨k3, k4⟩, k5, k6⟩ := ((unhide HR).1 h).2.1 s (List.mem_of_getElem? (unhide HX))
            omega
          subst hr0
          go_upto_region 6 with fail
          go_quiet (fail)
          have BB := below_dr' hbel nq
          go_wp2
          go_ret
          exact ⟨rfl, BB⟩
        have g0 : decide (s.gen < 1) = false := by simpa using h0
        by_cases h1 : 34359738367 < s.gen
        · have g1 : decide (34359738367 < s.gen) = true := by simpa using h1
          have hr0 : r = false := by
            rw [Bool.eq_false_iff]
            intro h
            obtain ⟨⟨k1, k2⟩, ⟨k3, k4⟩, k5, k6⟩ := ((unhide HR).1 h).2.1 s (List.mem_of_getElem? (unhide HX))
            omega
          subst hr0
          go_upto_region 6 with fail
          go_quiet (fail)
          have BB := below_dr' hbel nq
          go_wp2
          go_ret
          exact ⟨rfl, BB⟩
        have g1 : decide (34359738367 < s.gen) = false := by simpa using h1
        by_cases h2 : s.docs < 0
        · have g2 : decide (s.docs < 0) = true := by simpa using h2
          have hr0 : r = false := by
            rw [Bool.eq_false_iff]
            intro h
            obtain ⟨⟨k1, k2⟩, ⟨k3, k4⟩, k5, k6⟩ := ((unhide HR).1 h).2.1 s (List.mem_of_getElem? (unhide HX))
            omega
          subst hr0
          go_upto_region 6 with fail
          go_quiet (fail)
          have BB := below_dr' hbel nq
          go_wp2
          go_ret
          exact ⟨rfl, BB⟩
        have g2 : decide (s.docs < 0) = false := by simpa using h2
        by_cases h3 : 64 < s.docs
        · have g3 : decide (64 < s.docs) = true := by simpa using h3
          have hr0 : r = false := by
            rw [Bool.eq_false_iff]
            intro h
            obtain ⟨⟨k1, k2⟩, ⟨k3, k4⟩, k5, k6⟩ := ((unhide HR).1 h).2.1 s (List.mem_of_getElem? (unhide HX))
            omega
          subst hr0
          go_upto_region 6 with fail
          go_quiet (fail)
          have BB := below_dr' hbel nq
          go_wp2
          go_ret
          exact ⟨rfl, BB⟩
        have g3 : decide (64 < s.docs) = false := by simpa using h3
        by_cases h4 : s.dead < 0
        · have g4 : decide (s.dead < 0) = true := by simpa using h4
          have hr0 : r = false := by
            rw [Bool.eq_false_iff]
            intro h
            obtain ⟨⟨k1, k2⟩, ⟨k3, k4⟩, k5, k6⟩ := ((unhide HR).1 h).2.1 s (List.mem_of_getElem? (unhide HX))
            omega
          subst hr0
          go_upto_region 6 with fail
          go_quiet (fail)
          have BB := below_dr' hbel nq
          go_wp2
          go_ret
          exact ⟨rfl, BB⟩
        have g4 : decide (s.dead < 0) = false := by simpa using h4
        by_cases h5 : s.docs < s.dead
        · have g5 : decide (s.docs < s.dead) = true := by simpa using h5
          have hr0 : r = false := by
            rw [Bool.eq_false_iff]
            intro h
            obtain ⟨⟨k1, k2⟩, ⟨k3, k4⟩, k5, k6⟩ := ((unhide HR).1 h).2.1 s (List.mem_of_getElem? (unhide HX))
            omega
          subst hr0
          go_upto_region 6 with fail
          go_quiet (fail)
          have BB := below_dr' hbel nq
          go_wp2
          go_ret
          exact ⟨rfl, BB⟩
        have g5 : decide (s.docs < s.dead) = false := by simpa using h5
        have hOk : Z.Ok s := ⟨⟨by omega, by omega⟩, ⟨by omega, by omega⟩, by omega, by omega⟩
        have HOK := hide hOk
        clear hOk
        go_upto_region 6 with fail
        go_quiet (fail)
        have BB := below_dr' hbel nq
        clear c0 c1 c2 h0 h1 h2 h3 h4 h5 g0 g1 g2 g3 g4 g5 hbel
        go_wp2
        go_loopw [4] (fun jv wr => ∃ j : Nat, j ≤ k ∧ jv = .int .i64 j ∧ Hid (∀ i y, i < j → L[i]? = some y → y.gen ≠ s.gen) ∧ Below w.heap.size w wr) (fun jv _ => k - (intOf jv).toNat)
        case atStart => exact ⟨0, Nat.zero_le _, rfl, hide (fun i y hi => by omega), BB⟩
        case round =>
          clear BB
          obtain ⟨j, hj, rfl, HJ, hbel⟩ := hrel
          by_cases hjk : j < k
          · obtain ⟨y, hy⟩ : ∃ x, L[j]? = some x := ⟨L[j], List.getElem?_eq_getElem (by omega)⟩
            obtain ⟨y0, -, -, -⟩ := unhide HC j y hy
            have c0 := (hbel.cell (p := ⟨b, off + k * 4, none⟩) hb).trans e0
            have c1 := (hbel.cell (p := ⟨b, off + j * 4, none⟩) hb).trans y0
            have hjl : j < L.length := by omega
            have HY := hide hy
            clear hy y0
            by_cases hys : y.gen = s.gen
            · have q : (y.gen == s.gen) = true := by simp [hys]
              have hr0 : r = false := by
                rw [Bool.eq_false_iff]
                intro h
                refine zready_of ((unhide HR).1 h).2.2 (unhide HX) ?_
                rw [← hys]
                exact List.mem_map.2 ⟨y, List.mem_iff_getElem?.2 ⟨j, by rw [List.getElem?_take, if_pos hjk]; exact unhide HY⟩, rfl⟩
              subst hr0
              clear hys
              go_upto_region 11 with fail
              go_quiet (fail)
              have BB := below_dr' hbel nq
              go_wp2
              go_ret
              exact ⟨rfl, BB⟩
            · have q : (y.gen == s.gen) = false := by simp [hys]
              have HYS := hide hys
              clear hys
              go_upto_region 11 with fail
              go_quiet (fail)
              have BB := below_dr' hbel nq
              go_wp2
              go_roundw
              case rel =>
                refine ⟨j + 1, by omega, by go_num, hide (fun i z hi hz => ?_), BB⟩
                by_cases e : i = j
                · subst e
                  rw [unhide HY] at hz
                  cases hz
                  exact unhide HYS
                · exact unhide HJ i z (by omega) hz
              case measure => simp [intOf]; omega
          · have hjk2 : j = k := by omega
            subst hjk2
            go_wp2
            go_roundw
            case rel =>
              refine ⟨j + 1, by omega, by go_num, hide (fun i z hi hz => ?_), hbel⟩
              by_cases e : i = j
              · subst e
                rw [unhide HX] at hz
                cases hz
                refine ⟨unhide HOK, fun hm => ?_⟩
                obtain ⟨y, m1, m2⟩ := List.mem_map.1 hm
                obtain ⟨n, hn⟩ := List.mem_iff_getElem?.1 m1
                rw [List.getElem?_take] at hn
                split at hn
                · rename_i h9
                  exact unhide HJ n y h9 hn m2
                · cases hn
              · exact unhide HA i z (by omega) hz
            case measure => simp [intOf]; omega
      · have hr1 : r = true := (unhide HR).2 ⟨by have := of_decide_eq_false hll'; omega, fun s hs => by
            obtain ⟨i, hi⟩ := List.mem_iff_getElem?.1 hs
            exact (unhide HA i s (by have := (List.getElem?_eq_some_iff.1 hi).1; omega) hi).1, by
          have := zready_to (fun i s hi => (unhide HA i s (by have := (List.getElem?_eq_some_iff.1 hi).1; omega) hi).2) L.length (Nat.le_refl _)
          rwa [List.take_length] at this⟩
        subst hr1
        go_wp2
        go_ret
        exact ⟨rfl, hbel⟩
end Go.Proofs.Ytfniphaehggcgaa
