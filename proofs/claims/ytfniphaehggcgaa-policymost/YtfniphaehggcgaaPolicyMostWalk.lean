/-
  PolicyMost: no more documents come of one proposal than may; those of one are of one level.
-/
import Derived.Test.YtfniphaehggcgaaPolicyMostKeeps12
namespace Go.Proofs.Ytfniphaehggcgaa
set_option maxRecDepth 100000
open Go.RowKit Go.Deep

/-- Proposals are within what may be. -/
def WithinP (L : List Sz) (per most : Int) (p : List (List Int)) : Prop := ∀ f ∈ p, ∃ G : List Sz, f = Z.gens G ∧ (∀ s ∈ G, Z.find L s.gen = some s ∧ Z.Ok s) ∧ (∃ t : Nat, ∀ s ∈ G, Z.lv per.toNat s = t) ∧ (1 < G.length → Z.lives G ≤ most ∧ (G.length : Int) = per) ∧ G.length ≤ 1000
theorem WithinP.nil (L : List Sz) (per most : Int) : WithinP L per most [] := fun f h => by cases h

namespace Z
theorem alk_lv {per : Nat} {g : List Sz} (h : alk per g = true) : ∃ t, ∀ s ∈ g, lv per s = t := by
  cases g with
  | nil => exact ⟨0, fun s hs => by cases hs⟩
  | cons x r =>
    refine ⟨lv per x, fun s hs => ?_⟩
    have := List.all_eq_true.1 h s hs
    rw [Bool.and_eq_true, decide_eq_true_eq] at this
    exact this.2
theorem grps_mem {lg : Bool} {per : Nat} {most : Int} {L : List Sz} {g : List Sz} (h : g ∈ grps lg per most L) : g.length = per ∧ 2 ≤ per ∧ lives g ≤ most ∧ (∃ t, ∀ s ∈ g, lv per s = t) ∧ g.Sublist L := by
  unfold grps at h
  split at h
  · obtain ⟨k1, k2, k3, k4, k5⟩ := runs_mem _ (Nat.le_refl _) h
    exact ⟨k1, k2, k3, alk_lv k4, k5⟩
  · obtain ⟨i, -, h⟩ := tierTo_mem h
    obtain ⟨k1, k2, k3, k4⟩ := chunks_mem _ (Nat.le_refl _) h
    refine ⟨k1, k2, k3, ⟨i, fun s hs => ?_⟩, k4.trans List.filter_sublist⟩
    have := (List.mem_filter.1 (k4.subset hs)).2
    unfold ofLv at this
    rw [Bool.and_eq_true, decide_eq_true_eq] at this
    exact this.2
theorem within_pr {lg : Bool} {per most : Int} {L : List Sz} (h : Ready L) (hp : Pol per most) : WithinP L per most (prop true L (grps lg per.toNat most L)) := by
  intro f hf
  rw [prop_eq] at hf
  rcases List.mem_append.1 hf with hf | hf
  · obtain ⟨g, h1, rfl⟩ := List.mem_map.1 hf
    obtain ⟨k1, k2, k3, k4, k5⟩ := grps_mem h1
    have := hp.1
    exact ⟨g, rfl, fun s hs => ⟨find_mem h.2.2 (k5.subset hs), h.2.1 s (k5.subset hs)⟩, k4, fun _ => ⟨k3, by omega⟩, by omega⟩
  · obtain ⟨s, h1, rfl⟩ := List.mem_map.1 hf
    have hs := (alone_mem.1 h1).1
    exact ⟨[s], rfl, fun x hx => by rw [List.mem_singleton] at hx; subst hx; exact ⟨find_mem h.2.2 hs, h.2.1 _ hs⟩, ⟨_, fun x hx => by rw [List.mem_singleton] at hx; subst hx; rfl⟩, fun hh => by simp at hh, by simp⟩
end Z

set_option maxRecDepth 100000 in
set_option maxHeartbeats 8000000 in
theorem rwithin_any (v u : Value) (L : List Sz) (p : List (List Int)) (per most : Int) (w : World) (h : Zl w v L) (hp : Tl w u p) (hR : WithinP L per most p) (h2 : 2 ≤ per ∧ per ≤ 9223372036854775807) :
    Calls Try.prog 20 #[v, u, .agg #[.int .i64 per, .int .i64 most]] w fun e w' => e = .returned (.bool true) ∧ Below w.heap.size w w' := by
  have HV := hide h
  have HP := hide hp
  have HR := hide hR
  obtain ⟨a, cap, rfl, -⟩ := h.open
  obtain ⟨a2, cap2, rfl, hq1, hq2, -⟩ := hp.at
  obtain ⟨W, hW⟩ : ∃ W, W = w.alloc (.cells #[.int .i64 per, .int .i64 most] 24) := ⟨_, rfl⟩
  have BW : Below w.heap.size w W := by rw [hW]; exact below_alloc _ _
  have b0 : W.cell? ⟨w.heap.size, 0, none⟩ = some (.int .i64 per) := by rw [hW]; exact box_cell (heap_alloc_new w _) rfl
  have b1 : W.cell? ⟨w.heap.size, 1, none⟩ = some (.int .i64 most) := by rw [hW]; exact box_cell (heap_alloc_new w _) rfl
  have HW := hide hW
  clear h hp hR hW
  go_enter Try.func20, Try.ntmps20
  go_wp2
  go_loopw [7] (fun iv wr => ∃ i : Nat, i ≤ p.length ∧ iv = .int .i64 i ∧ Below W.heap.size W wr) (fun iv _ => p.length - (intOf iv).toNat)
  case atStart => exact ⟨0, Nat.zero_le _, rfl, by rw [← unhide HW]; exact Below.refl _ _⟩
  case round =>
    obtain ⟨i, hi, rfl, hbel⟩ := hrel
    by_cases hlt : i < p.length
    · have hbw := below_trans' BW hbel
      obtain ⟨a', c', hv', -, -, ho⟩ := ((unhide HP).below hbw).at
      simp only [Value.slice.injEq, true_and] at hv'
      obtain ⟨rfl, rfl⟩ := hv'
      obtain ⟨b, off, rfl, hb, hc⟩ := ho (by omega)
      obtain ⟨f, hx⟩ : ∃ x, p[i]? = some x := ⟨p[i], List.getElem?_eq_getElem hlt⟩
      obtain ⟨fa, fc, d0, FI⟩ := hc i f hx
      obtain ⟨G, hG1, hG2, ⟨t, hG3⟩, hG4, hG5⟩ := unhide HR f (List.mem_of_getElem? hx)
      have hfl : f.length = G.length := by rw [hG1]; simp [Z.gens]
      obtain ⟨M, hM⟩ : ∃ M, f.length = M := ⟨_, rfl⟩
      have hgl : G.length = M := by omega
      have hM5 : M ≤ 1000 := by omega
      rw [hM] at d0
      have hG4' : 1 < M → Z.lives G ≤ most ∧ (M : Int) = per := by rw [← hgl]; exact hG4
      have HG1 := hide hG1
      have HG2 := hide hG2
      have HG3 := hide hG3
      have HG4 := hide hG4'
      have HGL := hide hgl
      have HFI := hide FI
      obtain ⟨fa', fc', hv', hf1, hf2, -, hof⟩ := FI.open
      simp only [Value.slice.injEq] at hv'
      obtain ⟨rfl, -, rfl⟩ := hv'
      have HOF := hide hof
      clear ho hc hx hof FI hG1 hG2 hG3 hG4 hG4' hgl hM hfl hf1 hf2
      have t0 := cell_keep b0 hbel
      have t1 := cell_keep b1 hbel
      rename World => w0
      go_wp2
      go_loopw [8, 9] (fun nv kv wr => ∃ (k : Nat) (n : Int), k ≤ M ∧ kv = .int .i64 k ∧ nv = .int .i64 n ∧ (0 ≤ n ∧ n ≤ k * 64) ∧ Hid (n = Z.lives (G.take k)) ∧ Below w0.heap.size w0 wr) (fun _ kv _ => M - (intOf kv).toNat)
      case atStart => exact ⟨0, 0, Nat.zero_le _, rfl, rfl, by omega, rfl, Below.refl _ _⟩
      case round =>
        obtain ⟨k, n, hk, rfl, rfl, ⟨hn0, hn1⟩, HN, hbk⟩ := hrel
        have c0 := cell_keep d0 hbk
        by_cases hlk : k < M
        · have hfM : f.length = M := by rw [unhide HG1, ← unhide HGL]; simp [Z.gens]
          obtain ⟨fb, foff, rfl, hfb, hfc⟩ := unhide HOF (by omega)
          obtain ⟨s, hs⟩ : ∃ x, G[k]? = some x := ⟨G[k]'(by rw [unhide HGL]; exact hlk), List.getElem?_eq_getElem _⟩
          obtain ⟨s0, hs0⟩ : ∃ x, G[0]? = some x := ⟨G[0]'(by rw [unhide HGL]; omega), List.getElem?_eq_getElem _⟩
          have e0 := cell_keep (hfc k s.gen (by rw [unhide HG1, Z.gens, List.getElem?_map, hs]; rfl)) hbk
          have e1 := cell_keep (hfc 0 s0.gen (by rw [unhide HG1, Z.gens, List.getElem?_map, hs0]; rfl)) hbk
          simp only [Nat.add_zero] at e1
          have hsG := List.mem_of_getElem? hs
          have hsG0 := List.mem_of_getElem? hs0
          obtain ⟨k1, k2⟩ := unhide HG2 s hsG
          obtain ⟨k3, k4⟩ := unhide HG2 s0 hsG0
          have BBk := below_trans' hbw hbk
          have CS := fun w1 (hb : Below w.heap.size w w1) => zsize_any _ L s.gen w1 (Kl.below (unhide HV) hb)
          have CS0 := fun w1 (hb : Below w.heap.size w w1) => zsize_any _ L s0.gen w1 (Kl.below (unhide HV) hb)
          rw [k1] at CS
          rw [k3] at CS0
          simp only [Option.getD_some, Option.isSome_some] at CS CS0
          have CL := fun w1 => rlevel_any s per w1 k2 h2
          have CL0 := fun w1 => rlevel_any s0 per w1 k4 h2
          rw [unhide HG3 s hsG] at CL
          rw [unhide HG3 s0 hsG0] at CL0
          have HN2 : Hid (n + s.docs - s.dead = Z.lives (G.take (k + 1))) := by
            show _ = _
            rw [Z.lives_take hs, ← unhide HN, Z.live]
            omega
          obtain ⟨-, ⟨o3, o4⟩, o5, o6⟩ := k2
          have hw1 : IntKind.i64.wrap (n + s.docs) = n + s.docs := by rw [IntKind.wrap_i64]; omega
          have hw2 : IntKind.i64.wrap (n + s.docs - s.dead) = n + s.docs - s.dead := by rw [IntKind.wrap_i64]; omega
          obtain ⟨g, d, x, bu⟩ := s
          obtain ⟨g0, d9, x0, bu0⟩ := s0
          unfold zv at CS CS0 CL CL0
          simp only at CS CS0 CL CL0 e0 e1 HN2 o3 o4 o5 o6 hw1 hw2
          clear k1 k3 k4 hs hs0 hsG hsG0 hfc hfM
          go_wp2_with fail
          refine (CS _ BBk).mono ?_
          rintro e w1 ⟨rfl, B1⟩
          have BB1 := below_trans' BBk B1
          have BK1 := below_trans' hbk B1
          obtain ⟨W1, hW1⟩ : ∃ W1, W1 = w1.alloc (.cells #[.int .i64 g, .int .i64 d, .int .i64 x, .bool bu] 36) := ⟨_, rfl⟩
          have BW1 : Below w.heap.size w W1 := by rw [hW1]; exact below_all BB1 _
          have BR1 : Below w0.heap.size w0 W1 := by rw [hW1]; exact below_all BK1 _
          have BQ1 : Below wr.heap.size wr W1 := by rw [hW1]; exact below_all B1 _
          obtain ⟨y0, y1, y2, y3⟩ := box4 (s := ⟨g, d, x, bu⟩) (w := W1) (g := w1.heap.size) (fr := (0, 0)) (T := 36) (by rw [hW1]; exact heap_alloc_new w1 _)
          simp only at y0 y1 y2 y3
          have c1 := cell_keep c0 BQ1
          have e2 := cell_keep e1 BQ1
          have HW1 := hide hW1
          clear CS B1 c0 e0 e1 hW1 BB1 BK1 BQ1 BBk hbk
          go_upto_region 9 with fail
          rw [← unhide HW1]
          go_wp2_with fail
          refine (CS0 _ BW1).mono ?_
          rintro e w2 ⟨rfl, B2⟩
          have BR2 := below_trans' BR1 B2
          obtain ⟨W2, hW2⟩ : ∃ W2, W2 = w2.alloc (.cells #[.int .i64 g0, .int .i64 d9, .int .i64 x0, .bool bu0] 36) := ⟨_, rfl⟩
          have BR3 : Below w0.heap.size w0 W2 := by rw [hW2]; exact below_all BR2 _
          have BQ2 : Below W1.heap.size W1 W2 := by rw [hW2]; exact below_all B2 _
          obtain ⟨z0, z1, z2, z3⟩ := box4 (s := ⟨g0, d9, x0, bu0⟩) (w := W2) (g := w2.heap.size) (fr := (0, 0)) (T := 36) (by rw [hW2]; exact heap_alloc_new w2 _)
          simp only at z0 z1 z2 z3
          have y0 := cell_keep y0 BQ2
          have y1 := cell_keep y1 BQ2
          have y2 := cell_keep y2 BQ2
          have y3 := cell_keep y3 BQ2
          have q0 := cell_keep t0 BR3
          have HW2 := hide hW2
          clear CS0 B2 BR2 BR1 c1 e2 hW2 BQ2 BW1
          have f0 := fun w' (hb : Below W2.heap.size W2 w') => cell_keep y0 hb
          have f1 := fun w' (hb : Below W2.heap.size W2 w') => cell_keep y1 hb
          have f2 := fun w' (hb : Below W2.heap.size W2 w') => cell_keep y2 hb
          have f3 := fun w' (hb : Below W2.heap.size W2 w') => cell_keep y3 hb
          have g0' := fun w' (hb : Below W2.heap.size W2 w') => cell_keep z0 hb
          have g1' := fun w' (hb : Below W2.heap.size W2 w') => cell_keep z1 hb
          have g2' := fun w' (hb : Below W2.heap.size W2 w') => cell_keep z2 hb
          have g3' := fun w' (hb : Below W2.heap.size W2 w') => cell_keep z3 hb
          have fp := fun w' (hb : Below W2.heap.size W2 w') => cell_keep q0 hb
          go_upto_region 10 with fail
          rw [← unhide HW2]
          have hne : ((t : Int) != (t : Int)) = false := by simp
          go_upto_region 11 with fail
          clear y0 y1 y2 y3 z0 z1 z2 z3 q0
          refine region_below (by kernel_rfl) (by kernel_rfl) ?_
          repeat
            (first
              | go_big_quiet_skip
              | (go_big_quiet_want; go_big_quiet_op
                 first
                   | go_big_quiet_on
                   | (apply Exists.intro
                      refine ⟨fun w' hw' => ?_, ?_⟩
                      · first
                       | exact rfl
                       | (rw [fp w' hw']; exact ⟨rfl, rfl⟩)
                       | (rw [f0 w' hw']; dsimp only [Result.andThen]; rw [f1 w' hw']; dsimp only [Result.andThen]; rw [f2 w' hw']; dsimp only [Result.andThen]; rw [f3 w' hw']; exact ⟨rfl, rfl⟩)
                       | (rw [g0' w' hw']; dsimp only [Result.andThen]; rw [g1' w' hw']; dsimp only [Result.andThen]; rw [g2' w' hw']; dsimp only [Result.andThen]; rw [g3' w' hw']; exact ⟨rfl, rfl⟩)
                       | (go_at_call_of 31 (Value.agg #[Value.int IntKind.i64 g, Value.int IntKind.i64 d, Value.int IntKind.i64 x, Value.bool bu]); exact (CL _).mono fun e w'' ⟨h1, h2⟩ => ⟨h1, below_trans' hw' h2⟩)
                       | (go_at_call 31; exact (CL0 _).mono fun e w'' ⟨h1, h2⟩ => ⟨h1, below_trans' hw' h2⟩)
                      go_big_quiet_on)))
          refine wpQuiet_nil ?_
          intro w9 hb9
          have BB9 := below_trans' BR3 hb9
          clear CL CL0 f0 f1 f2 f3 g0' g1' g2' g3' fp
          go_wp2
          go_roundw
          case rel => exact ⟨k + 1, n + d - x, by omega, by go_num, by go_num, by omega, HN2, BB9⟩
          case measure => simp [intOf]; omega
        · have hkM : k = M := by omega
          have hnl : n = Z.lives G := by rw [unhide HN, hkM, ← unhide HGL, List.take_length]
          have u0 := cell_keep t0 hbk
          have u1 := cell_keep t1 hbk
          by_cases hM1 : 1 < M
          · obtain ⟨r1, r2⟩ := unhide HG4 hM1
            have x1 : decide ((1 : Int) < (M : Int)) = true := by simp; omega
            have x2 : decide (most < n) = false := by simp; omega
            have x3 : ((M : Int) != per) = false := by simp [r2]
            clear hnl r1 r2
            go_upto_region 13 with fail
            go_quiet (fail)
            have BB9 := below_trans' hbel (below_dr' hbk nq)
            go_wp2
            go_roundw
            case rel => exact ⟨i + 1, by omega, by go_num, BB9⟩
            case measure => simp [intOf]; omega
          · have x1 : decide ((1 : Int) < (M : Int)) = false := by simp; omega
            clear hnl
            go_upto_region 13 with fail
            go_quiet (fail)
            have BB9 := below_trans' hbel (below_dr' hbk nq)
            go_wp2
            go_roundw
            case rel => exact ⟨i + 1, by omega, by go_num, BB9⟩
            case measure => simp [intOf]; omega
    · go_wp2
      go_ret
      exact ⟨rfl, below_trans' BW hbel⟩

set_option maxRecDepth 100000 in
set_option maxHeartbeats 8000000 in
theorem policyMost_walk (v : Value) (L : List Sz) (per most : Int) (w : World) (h : Zl w v L) (hp1 : per ≤ 9223372036854775807) :
    Calls Try.prog 5 #[v, .agg #[.int .i64 per, .int .i64 most]] w fun e w' => e = .returned (.bool true) ∧ Below w.heap.size w w' := by
  obtain ⟨r, hr⟩ : ∃ r : Bool, r = true ↔ Z.Ready L := by
    by_cases hf : Z.Ready L
    · exact ⟨true, fun _ => hf, fun _ => rfl⟩
    · exact ⟨false, (fun h => by cases h), fun h => absurd h hf⟩
  obtain ⟨mb, hm⟩ : ∃ r : Bool, r = true ↔ Z.Pol per most := by
    by_cases hf : Z.Pol per most
    · exact ⟨true, fun _ => hf, fun _ => rfl⟩
    · exact ⟨false, (fun h => by cases h), fun h => absurd h hf⟩
  have hR1 : WithinP L per most (if (r && mb) = true then Z.prop true L (Z.tierG per.toNat most L) else []) := by
    split
    · rename_i hh
      obtain ⟨h1, h2⟩ := Bool.and_eq_true_iff.1 hh
      have := Z.within_pr (lg := false) (hr.1 h1) (hm.1 h2)
      rwa [Z.grps, if_neg (by simp)] at this
    · exact WithinP.nil L per most
  have hR2 : WithinP L per most (if (r && mb) = true then Z.prop true L (Z.runs per.toNat most L) else []) := by
    split
    · rename_i hh
      obtain ⟨h1, h2⟩ := Bool.and_eq_true_iff.1 hh
      have := Z.within_pr (lg := true) (hr.1 h1) (hm.1 h2)
      rwa [Z.grps, if_pos rfl] at this
    · exact WithinP.nil L per most
  have CT := fun w1 (hb : Below w.heap.size w w1) => tiered_any v L per most w1 (h.below hb) r mb hr hm
  have CLo := fun w1 (hb : Below w.heap.size w w1) => logs_any v L per most w1 (h.below hb) r mb hr hm
  obtain ⟨P1, hP1⟩ : ∃ P, (if (r && mb) = true then Z.prop true L (Z.tierG per.toNat most L) else []) = P := ⟨_, rfl⟩
  obtain ⟨P2, hP2⟩ : ∃ P, (if (r && mb) = true then Z.prop true L (Z.runs per.toNat most L) else []) = P := ⟨_, rfl⟩
  rw [hP1] at CT hR1
  rw [hP2] at CLo hR2
  have CR := fun (h2 : 2 ≤ per) (w1 : World) (u : Value) (P : List (List Int)) (hb : Below w.heap.size w w1) (hu : Tl w1 u P) (hR : WithinP L per most P) => rwithin_any v u L P per most w1 (h.below hb) hu hR ⟨h2, hp1⟩
  have hll9 : L.length ≤ 9223372036854775807 := by
    obtain ⟨a, cap, -, h1, h2, -⟩ := h.open
    omega
  obtain ⟨a, cap, rfl, -⟩ := h.open
  obtain ⟨W, hW⟩ : ∃ W, W = w.alloc (.cells #[.int .i64 per, .int .i64 most] 24) := ⟨_, rfl⟩
  have BW : Below w.heap.size w W := by rw [hW]; exact below_alloc _ _
  have b0 : W.cell? ⟨w.heap.size, 0, none⟩ = some (.int .i64 per) := by rw [hW]; exact box_cell (heap_alloc_new w _) rfl
  have b1 : W.cell? ⟨w.heap.size, 1, none⟩ = some (.int .i64 most) := by rw [hW]; exact box_cell (heap_alloc_new w _) rfl
  have HW := hide hW
  clear hr h hW hm hP1 hP2
  go_enter Try.func5, Try.ntmps5
  go_wp2_with fail
  rw [← unhide HW]
  refine (awake12_any _).mono ?_
  rintro e w1 ⟨rfl, B1⟩
  have b0 := cell_keep b0 B1
  have b1 := cell_keep b1 B1
  have BB1 := below_trans' BW B1
  clear B1 BW
  by_cases h30 : 30 < L.length
  · have h30' : decide ((30 : Int) < (L.length : Int)) = true := by simp; omega
    clear CT CLo CR
    go_wp2
    go_ret
    exact ⟨rfl, BB1⟩
  have h30' : decide ((30 : Int) < (L.length : Int)) = false := by simp; omega
  by_cases hp2 : per < 2
  · clear CT CLo CR
    go_wp2
    go_ret
    exact ⟨rfl, BB1⟩
  have h2 : 2 ≤ per := by omega
  have CR := CR h2
  go_upto_region 4 with fail
  go_region_held3 (fun w' => w'.cell? ⟨w.heap.size, 0, none⟩ = some (.int .i64 per) ∧ w'.cell? ⟨w.heap.size, 1, none⟩ = some (.int .i64 most) ∧ Below w.heap.size w w')
    (first
      | with_reducible assumption
      | (go_split_ands; exact ⟨b0, b1, BB1.drew⟩)
      | (go_split_ands; exact ⟨cell_keep (by assumption) B2, cell_keep (by assumption) B2, below_trans' (by assumption) B2⟩)
      | (go_split_ands; exact ⟨cell_keep (by assumption) B3, cell_keep (by assumption) B3, below_trans' (by assumption) B3⟩))
    (first
      | (go_at_call 11; go_split_ands; refine (CT _ (by assumption)).mono ?_; rintro e w2 ⟨v2, rfl, T2, B2⟩; obtain ⟨a2, c2, rfl, -⟩ := T2.at)
      | (go_at_call 20; go_split_ands; refine (CR _ _ P1 (by assumption) T2 hR1).mono ?_; rintro e w3 ⟨rfl, B3⟩))
  have q0 : w3.cell? ⟨w.heap.size, 0, none⟩ = some (.int .i64 per) := cell_keep (by assumption : w2.cell? ⟨w.heap.size, 0, none⟩ = some (.int .i64 per)) B3
  have q1 : w3.cell? ⟨w.heap.size, 1, none⟩ = some (.int .i64 most) := cell_keep (by assumption : w2.cell? ⟨w.heap.size, 1, none⟩ = some (.int .i64 most)) B3
  have BB3 : Below w.heap.size w w3 := below_trans' (by assumption : Below w.heap.size w w2) B3
  clear CT T2 B2 B3
  go_upto_region 5 with fail
  go_region_held3 (fun w' => w'.cell? ⟨w.heap.size, 0, none⟩ = some (.int .i64 per) ∧ w'.cell? ⟨w.heap.size, 1, none⟩ = some (.int .i64 most) ∧ Below w.heap.size w w')
    (first
      | with_reducible assumption
      | (go_split_ands; exact ⟨q0, q1, BB3.drew⟩)
      | (go_split_ands; exact ⟨cell_keep (by assumption) B4, cell_keep (by assumption) B4, below_trans' (by assumption) B4⟩)
      | (go_split_ands; exact ⟨cell_keep (by assumption) B5, cell_keep (by assumption) B5, below_trans' (by assumption) B5⟩))
    (first
      | (go_at_call 13; go_split_ands; refine (CLo _ (by assumption)).mono ?_; rintro e w4 ⟨v4, rfl, T4, B4⟩; obtain ⟨a4, c4, rfl, -⟩ := T4.at)
      | (go_at_call 20; go_split_ands; refine (CR _ _ P2 (by assumption) T4 hR2).mono ?_; rintro e w5 ⟨rfl, B5⟩))
  have BB5 : Below w.heap.size w w5 := below_trans' (by assumption : Below w.heap.size w w4) B5
  go_wp2
  go_ret
  exact ⟨rfl, BB5⟩
end Go.Proofs.Ytfniphaehggcgaa
