/-
  PolicyKeeps: as much lives behind proposals as ahead of them; who is of none stays.
-/
import Derived.Test.YtfniphaehggcgaaQ21
namespace Go.Proofs.Ytfniphaehggcgaa
set_option maxRecDepth 100000
open Go.RowKit Go.Deep

namespace Z
theorem after_came {r : Bool} {L : List Sz} {p : List (List Int)} (hr : r = true → Ready L) (hx : after r L p ≠ []) : r = true ∧ ∃ g, (∀ s ∈ L, s.gen < g) ∧ Came L p g (after r L p) ∧ p.length ≤ p.flatten.length := by
  unfold after at hx ⊢
  split at hx
  · rename_i h
    rw [if_pos h]
    rw [Bool.and_eq_true, Bool.and_eq_true, decide_eq_true_eq] at h
    obtain ⟨h1, h2, h3⟩ := h
    have hgo := Go.start (hr h1) h2 h3
    cases hg : going L p (great L + 1) with
    | none => rw [hg] at hx; exact absurd rfl hx
    | some x => exact ⟨h1, _, hgo.low, going_came hgo hg, flat_ge hgo.ne⟩
  · exact absurd rfl hx
theorem find_mem {L : List Sz} (h : (gens L).Nodup) {s : Sz} (hs : s ∈ L) : find L s.gen = some s := by
  obtain ⟨i, hi⟩ := List.mem_iff_getElem?.1 hs
  refine zfind_at hi rfl fun j y hj hy e => ?_
  have hyL := List.mem_of_getElem? hy
  have := same_gen h hyL hs e
  subst this
  have h1 := zready_of h hi
  exact h1 (List.mem_map.2 ⟨y, List.mem_iff_getElem?.2 ⟨j, by rw [List.getElem?_take, if_pos hj]; exact hy⟩, rfl⟩)
theorem Came.gone {L x : List Sz} {p : List (List Int)} {g : Int} (h : Came L p g x) (hl : ∀ s ∈ L, s.gen < g) {s : Sz} (hs : s ∈ L) (hf : s.gen ∈ p.flatten) : find x s.gen = none := zfind_not fun t ht e => by
  rcases h.mem t ht with ⟨-, k2⟩ | ⟨-, -, k3⟩
  · exact k2 (e ▸ hf)
  · have := hl s hs
    omega
theorem Came.stays {L x : List Sz} {p : List (List Int)} {g : Int} (h : Came L p g x) {s : Sz} (hs : s ∈ L) (hf : s.gen ∉ p.flatten) : find x s.gen = some s := find_mem h.go.nodup (h.old s hs hf)
end Z

set_option maxRecDepth 100000 in
set_option maxHeartbeats 8000000 in
theorem policyKeeps_walk (v u : Value) (L : List Sz) (p : List (List Int)) (w : World) (h : Zl w v L) (hp : Tl w u p) :
    Calls Try.prog 8 #[v, u] w fun e w' => e = .returned (.bool true) ∧ Below w.heap.size w w' := by
  obtain ⟨q, hq⟩ : ∃ q : Bool, q = true ↔ FewP p := by
    by_cases hf : FewP p
    · exact ⟨true, fun _ => hf, fun _ => rfl⟩
    · exact ⟨false, (fun h => by cases h), fun h => absurd h hf⟩
  obtain ⟨r, hr⟩ : ∃ r : Bool, r = true ↔ Z.Ready L := by
    by_cases hf : Z.Ready L
    · exact ⟨true, fun _ => hf, fun _ => rfl⟩
    · exact ⟨false, (fun h => by cases h), fun h => absurd h hf⟩
  have CF := fun w1 (hb : Below w.heap.size w w1) => fewP_any _ p w1 (hp.below hb) q hq
  have CA := fun w1 (hb : Below w.heap.size w w1) => after_any v u L p w1 (h.below hb) (hp.below hb) r hr
  obtain ⟨X, hX⟩ : ∃ X, Z.after r L p = X := ⟨_, rfl⟩
  rw [hX] at CA
  have HX := hide hX
  have HR := hide hr
  have HV := hide h
  have HP := hide hp
  have hll9 : L.length ≤ 9223372036854775807 := by
    obtain ⟨a, cap, -, h1, h2, -⟩ := h.open
    omega
  obtain ⟨a, cap, rfl, -⟩ := h.open
  obtain ⟨a2, cap2, rfl, -⟩ := hp.at
  clear hq hr hX h hp
  go_enter Try.func8, Try.ntmps8
  go_wp2_with fail
  refine (awake12_any _).mono ?_
  rintro e w1 ⟨rfl, B1⟩
  go_wp2_with fail
  refine (CF _ B1).mono ?_
  rintro e w1' ⟨rfl, rfl⟩
  clear CF
  go_wp2_with fail
  refine (CA _ B1).mono ?_
  rintro e w2 ⟨v2, rfl, Z2, B2⟩
  have BB2 := below_trans' B1 B2
  obtain ⟨ax, cx, rfl, -⟩ := Zl.open Z2
  have HZ := hide Z2
  clear CA B1 B2 Z2
  cases q with
  | false =>
    go_wp2
    go_ret
    exact ⟨rfl, BB2⟩
  | true =>
    by_cases h30 : 30 < L.length
    · have h30' : decide ((30 : Int) < (L.length : Int)) = true := by simp; omega
      go_wp2
      go_ret
      exact ⟨rfl, BB2⟩
    · have h30' : decide ((30 : Int) < (L.length : Int)) = false := by simp; omega
      by_cases hx0 : X = []
      · have q5 : ((X.length : Int) == 0) = true := by rw [hx0]; rfl
        clear hx0
        go_wp2
        go_ret
        exact ⟨rfl, BB2⟩
      · have q5 : ((X.length : Int) == 0) = false := beq_eq_false_iff_ne.2 fun e => hx0 (List.eq_nil_of_length_eq_zero (by omega))
        obtain ⟨hr1, g, hg1, hc, hpf⟩ := Z.after_came (unhide HR).1 (by rw [unhide HX]; exact hx0)
        rw [unhide HX] at hc
        have hRdy := (unhide HR).1 hr1
        have hfl := hc.len
        have hxl : X.length ≤ L.length := by omega
        have HC := hide hc
        have HG := hide hg1
        have HRX : Hid (Z.Ready X) := ⟨hc.go.len, hc.go.ok, hc.go.nodup⟩
        have HRD := hide hRdy
        clear hc hg1 hRdy hfl hpf hx0 hr1
        go_wp2
        go_loopw [8] (fun iv wr => ∃ k : Nat, k ≤ L.length ∧ iv = .int .i64 k ∧ Below w2.heap.size w2 wr) (fun iv _ => L.length - (intOf iv).toNat)
        case atStart => exact ⟨0, Nat.zero_le _, rfl, Below.refl _ _⟩
        case round =>
          obtain ⟨k, hk, rfl, hbel⟩ := hrel
          have BBr := below_trans' BB2 hbel
          by_cases hlt : k < L.length
          · obtain ⟨a', c', hv', -, -, -, ho⟩ := Zl.open (Kl.below (unhide HV) BBr)
            simp only [Value.slice.injEq, true_and] at hv'
            obtain ⟨rfl, rfl⟩ := hv'
            obtain ⟨b, off, rfl, hb, hc⟩ := ho (by omega)
            obtain ⟨s, hx⟩ : ∃ x, L[k]? = some x := ⟨L[k], List.getElem?_eq_getElem hlt⟩
            obtain ⟨c0, c1, c2, c3⟩ := hc k s hx
            have hsL := List.mem_of_getElem? hx
            clear ho hc hx
            have hszX := fun w3 (hb : Below wr.heap.size wr w3) => zsize_any _ X s.gen w3 (Kl.below (unhide HZ) (below_trans' hbel hb))
            by_cases hof : s.gen ∈ p.flatten
            · have hfi := (unhide HC).gone (unhide HG) hsL hof
              rw [hfi] at hszX
              have CH := rHas_any _ p s.gen wr ((unhide HP).below BBr) true ⟨fun _ => hof, fun _ => rfl⟩
              clear hof hfi hsL
              unfold zv Z.zero at hszX
              simp only [Option.getD_none, Option.isSome_none] at hszX
              go_wp2_with fail
              refine CH.mono ?_
              rintro e w' ⟨rfl, rfl⟩
              clear CH
              go_wp2_with fail
              refine (hszX _ (Below.refl _ _)).mono ?_
              rintro e w4 ⟨rfl, B4⟩
              have BB4 := below_trans' hbel B4
              clear hszX
              go_wp2
              go_quiet (fail)
              have BB5 := below_dr' (below_all BB4 (.cells #[.int .i64 0, .int .i64 0, .int .i64 0, .bool false] 36)) nq
              go_wp2
              go_roundw
              case rel => exact ⟨k + 1, by omega, by go_num, BB5⟩
              case measure => simp [intOf]; omega
            · have hfi := (unhide HC).stays hsL hof
              rw [hfi] at hszX
              have CH := rHas_any _ p s.gen wr ((unhide HP).below BBr) false ⟨(fun h => by cases h), fun h => absurd h hof⟩
              clear hof hfi hsL
              unfold zv at hszX
              simp only [Option.getD_some, Option.isSome_some] at hszX
              go_wp2_with fail
              refine CH.mono ?_
              rintro e w' ⟨rfl, rfl⟩
              clear CH
              go_wp2_with fail
              refine (hszX _ (Below.refl _ _)).mono ?_
              rintro e w4 ⟨rfl, B4⟩
              have BB4 := below_trans' hbel B4
              have e0 := cell_keep c0 B4
              have e1 := cell_keep c1 B4
              have e2 := cell_keep c2 B4
              have e3 := cell_keep c3 B4
              have hb4 : b < w4.heap.size := World.block_lt_of_cell? w4 _ e0
              have hb5 : b ≠ w4.heap.size := by omega
              clear hszX
              go_wp2
              go_quiet (fail)
              have BB5 := below_dr' (below_all BB4 (.cells #[.int .i64 s.gen, .int .i64 s.docs, .int .i64 s.dead, .bool s.busy] 36)) nq
              go_wp2
              go_roundw
              case rel => exact ⟨k + 1, by omega, by go_num, BB5⟩
              case measure => simp [intOf]; omega
          · have CL1 := fun w3 (hb : Below wr.heap.size wr w3) => rlive_any _ X w3 (Kl.below (unhide HZ) (below_trans' hbel hb)) (unhide HRX).fit
            have CL2 := fun w3 (hb : Below wr.heap.size wr w3) => rlive_any _ L w3 (Kl.below (unhide HV) (below_trans' BBr hb)) (unhide HRD).fit
            have CM := fun w3 (hb : Below wr.heap.size wr w3) => zmay_any _ X w3 (Kl.below (unhide HZ) (below_trans' hbel hb)) true ⟨fun _ => unhide HRX, fun _ => rfl⟩
            rw [(unhide HC).lives] at CL1
            obtain ⟨n, hn⟩ : ∃ n, Z.lives L = n := ⟨_, rfl⟩
            rw [hn] at CL1 CL2
            have q7 : (n == n) = true := by simp
            have q8 : decide ((X.length : Int) ≤ (L.length : Int)) = true := by simp; omega
            clear hn
            go_wp2_with fail
            refine (CL1 _ (Below.refl _ _)).mono ?_
            rintro e w3 ⟨rfl, B3⟩
            go_wp2_with fail
            refine (CL2 _ B3).mono ?_
            rintro e w4 ⟨rfl, B4⟩
            have BB4 := below_trans' B3 B4
            go_wp2_with fail
            refine (CM _ BB4).mono ?_
            rintro e w5 ⟨rfl, B5⟩
            have BB5 := below_trans' BBr (below_trans' BB4 B5)
            clear CL1 CL2 CM B3 B4 B5 BB4
            go_wp2
            go_ret
            exact ⟨rfl, BB5⟩
end Go.Proofs.Ytfniphaehggcgaa
