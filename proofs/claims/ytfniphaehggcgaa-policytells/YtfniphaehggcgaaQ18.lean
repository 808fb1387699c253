/-
  Texts put together: May12.
-/
import Derived.Test.YtfniphaehggcgaaQ13
import Derived.Deep.RegionHeld3
import Derived.Deep.CutRange
import Derived.BigQuiet
/-
  The contract of policy's May.
-/
namespace Go.Proofs.Ytfniphaehggcgaa
set_option maxRecDepth 100000
open Go.RowKit Go.Deep

theorem zready_to {L : List Sz} (h : ∀ i s, L[i]? = some s → s.gen ∉ Z.gens (L.take i)) : ∀ k, k ≤ L.length → (Z.gens (L.take k)).Nodup
  | 0, _ => by simp [Z.gens]
  | k + 1, hk => by
    have ih := zready_to h k (by omega)
    have hx : L[k]? = some L[k] := List.getElem?_eq_getElem (by omega)
    rw [take_snoc12 hx]
    unfold Z.gens at *
    rw [List.map_append, List.nodup_append]
    refine ⟨ih, by simp, fun a ha b hb => ?_⟩
    simp only [List.map_cons, List.map_nil, List.mem_singleton] at hb
    subst hb
    intro e
    exact h k _ hx (e ▸ ha)
theorem zready_of {L : List Sz} (h : (Z.gens L).Nodup) {i : Nat} {s : Sz} (hi : L[i]? = some s) : s.gen ∉ Z.gens (L.take i) := by
  have e : L = L.take i ++ s :: L.drop (i + 1) := by
    rw [← (List.getElem?_eq_some_iff.1 hi).2, ← List.drop_eq_getElem_cons, List.take_append_drop]
  rw [e] at h
  unfold Z.gens at *
  rw [List.map_append, List.nodup_append] at h
  intro hm
  exact h.2.2 _ hm s.gen (by simp) rfl

set_option maxRecDepth 100000 in
set_option maxHeartbeats 4000000 in
theorem zmay_any (v : Value) (L : List Sz) (w : World) (h : Zl w v L) (r : Bool) (hr : r = true ↔ Z.Ready L) :
    Calls Try.prog 17 #[v] w fun e w' => e = .returned (.bool r) ∧ Below w.heap.size w w' := by
  have HV := h
  obtain ⟨a, cap, rfl, h1, h2, hna, ho⟩ := h.open
  clear h
  by_cases hll : 16 < L.length
  · have hr0 : r = false := by
      rw [Bool.eq_false_iff]
      intro h
      have := (hr.1 h).1
      omega
    have hll' : (16 : Int) < (L.length : Int) := by omega
    subst hr0
    clear hr
    go_enter Try.func17, Try.ntmps17
    go_wp2
    go_ret
    exact ⟨rfl, Below.refl _ _⟩
  · have hll' : ¬ (16 : Int) < (L.length : Int) := by omega
    have HR := hide hr
    have HHV := hide HV
    clear hr HV
    go_enter Try.func17, Try.ntmps17
    go_wp2
    go_loopw [10] (fun iv wr => ∃ k : Nat, k ≤ L.length ∧ iv = .int .i64 k ∧ Hid (∀ i s, i < k → L[i]? = some s → Z.Ok s ∧ s.gen ∉ Z.gens (L.take i)) ∧ Below w.heap.size w wr) (fun iv _ => L.length - (intOf iv).toNat)
    case atStart => exact ⟨0, Nat.zero_le _, rfl, hide (fun i s hi => by omega), Below.refl _ _⟩
    case round =>
      obtain ⟨k, hk, rfl, HA, hbel⟩ := hrel
      by_cases hlt : k < L.length
      · obtain ⟨b, off, rfl, hb, hc⟩ := ho (by omega)
        obtain ⟨s, hx⟩ : ∃ x, L[k]? = some x := ⟨L[k], List.getElem?_eq_getElem hlt⟩
        obtain ⟨e0, e1, e2, e3⟩ := hc k s hx
        have c0 := (hbel.cell (p := ⟨b, off + k * 4, none⟩) hb).trans e0
        have c1 := (hbel.cell (p := ⟨b, off + k * 4 + 1, none⟩) hb).trans e1
        have c2 := (hbel.cell (p := ⟨b, off + k * 4 + 2, none⟩) hb).trans e2
        have c3 := (hbel.cell (p := ⟨b, off + k * 4 + 3, none⟩) hb).trans e3
        obtain ⟨W, hW⟩ : ∃ W, W = wr.alloc (.cells #[.int .i64 s.gen, .int .i64 s.docs, .int .i64 s.dead, .bool s.busy] 36) := ⟨_, rfl⟩
        have BW : Below w.heap.size w W := by rw [hW]; exact below_all hbel _
        obtain ⟨d0, d1, d2, d3⟩ := box4 (s := s) (w := W) (g := wr.heap.size) (fr := (0, 0)) (T := 36) (by rw [hW]; exact heap_alloc_new wr _)
        have R1 := Try.zto (some ⟨b, off, none⟩) L.length cap k (k : Int) rfl (by omega) (fun p hp => by cases hp; rfl)
        obtain ⟨G, hG⟩ : ∃ G, Z.gens (L.take k) = G := ⟨_, rfl⟩
        have hgl : G.length ≤ 16 := by rw [← hG]; simp [Z.gens]; omega
        have CG : ∀ w', Below W.heap.size W w' → Calls Try.prog 35 #[.slice (some ⟨b, off, none⟩) k cap] w' fun e w'' => ∃ v', e = .returned v' ∧ Il w'' v' G ∧ Below w'.heap.size w' w'' := fun w' hb => (gens_any _ (L.take k) w' ((((unhide HHV).below BW).take12 k hk).below hb) (by simp; omega)).mono (by
          rintro e w'' ⟨v', h1, h2, h3⟩
          rw [hG] at h2
          exact ⟨v', h1, Gl.owned h2, h3⟩)
        have CC : ∀ v' w', Il w' v' G → ∀ q, decide (s.gen ∈ G) = q → Calls Try.prog 34 #[v', .int .i64 s.gen] w' fun e w'' => e = .returned (.bool q) ∧ Below w'.heap.size w' w'' := fun v' w' h q hq => (zcontains_any v' G s.gen w' h (by omega)).mono (by
          rintro e w'' ⟨h1, h2⟩
          rw [hq] at h1
          exact ⟨h1, by rw [h2]; exact Below.refl _ _⟩)
        have HW := hide hW
        have HX := hide hx
        have HGG := hide hG
        have HCC := hide CC
        clear hc hx e0 e1 e2 e3 hbel hW hG CC
        by_cases hO : Z.Ok s
        · have CM := fun w' => maySize_any s w' true ⟨fun _ => hO, fun _ => rfl⟩
          unfold zv at CM
          by_cases hm : s.gen ∈ G
          · have CC := fun v' w' (h : Il w' v' G) => unhide HCC v' w' h true (by simp [hm])
            have hr0 : r = false := by
              rw [Bool.eq_false_iff]
              intro h
              have := zready_of ((unhide HR).1 h).2.2 (unhide HX)
              rw [unhide HGG] at this
              exact this hm
            subst hr0
            clear hO hm
            go_upto_region 6 with fail
            rw [← unhide HW]
            go_region_held3 (fun w' => w'.cell? ⟨wr.heap.size, 0, none⟩ = some (.int .i64 s.gen) ∧ w'.cell? ⟨wr.heap.size, 1, none⟩ = some (.int .i64 s.docs) ∧ w'.cell? ⟨wr.heap.size, 2, none⟩ = some (.int .i64 s.dead) ∧ w'.cell? ⟨wr.heap.size, 3, none⟩ = some (.bool s.busy) ∧ Below W.heap.size W w')
              (first
                | with_reducible assumption
                | (go_split_ands; exact ⟨d0, d1, d2, d3, (Below.refl _ _).drew⟩)
                | (go_split_ands; exact ⟨cell_keep (by assumption) B7, cell_keep (by assumption) B7, cell_keep (by assumption) B7, cell_keep (by assumption) B7, below_trans' (by assumption) B7⟩)
                | (go_split_ands; exact ⟨cell_keep (by assumption) B6, cell_keep (by assumption) B6, cell_keep (by assumption) B6, cell_keep (by assumption) B6, below_trans' (by assumption) B6⟩)
                | (go_split_ands; exact ⟨cell_keep (by assumption) B5, cell_keep (by assumption) B5, cell_keep (by assumption) B5, cell_keep (by assumption) B5, below_trans' (by assumption) B5⟩))
              (first
                | (go_at_call 33; go_split_ands; refine (CM _).mono ?_; rintro e w5 ⟨rfl, B5⟩)
                | (go_at_call 35; go_split_ands; refine (CG _ ?_).mono ?_; assumption; rintro e w6 ⟨v6, rfl, I6, B6⟩)
                | (go_at_call 34; go_split_ands; refine (CC _ _ ?_).mono ?_; assumption; rintro e w7 ⟨rfl, B7⟩))
            have BB := below_trans' BW (below_trans' (by assumption : Below W.heap.size W w6) B7)
            clear d0 d1 d2 d3 CM CG CC B5 B6 B7
            go_wp2
            go_ret
            exact ⟨rfl, BB⟩
          · have CC := fun v' w' (h : Il w' v' G) => unhide HCC v' w' h false (by simp [hm])
            have HOO := hide hO
            have HMM := hide hm
            clear hO hm
            go_upto_region 6 with fail
            rw [← unhide HW]
            go_region_held3 (fun w' => w'.cell? ⟨wr.heap.size, 0, none⟩ = some (.int .i64 s.gen) ∧ w'.cell? ⟨wr.heap.size, 1, none⟩ = some (.int .i64 s.docs) ∧ w'.cell? ⟨wr.heap.size, 2, none⟩ = some (.int .i64 s.dead) ∧ w'.cell? ⟨wr.heap.size, 3, none⟩ = some (.bool s.busy) ∧ Below W.heap.size W w')
              (first
                | with_reducible assumption
                | (go_split_ands; exact ⟨d0, d1, d2, d3, (Below.refl _ _).drew⟩)
                | (go_split_ands; exact ⟨cell_keep (by assumption) B7, cell_keep (by assumption) B7, cell_keep (by assumption) B7, cell_keep (by assumption) B7, below_trans' (by assumption) B7⟩)
                | (go_split_ands; exact ⟨cell_keep (by assumption) B6, cell_keep (by assumption) B6, cell_keep (by assumption) B6, cell_keep (by assumption) B6, below_trans' (by assumption) B6⟩)
                | (go_split_ands; exact ⟨cell_keep (by assumption) B5, cell_keep (by assumption) B5, cell_keep (by assumption) B5, cell_keep (by assumption) B5, below_trans' (by assumption) B5⟩))
              (first
                | (go_at_call 33; go_split_ands; refine (CM _).mono ?_; rintro e w5 ⟨rfl, B5⟩)
                | (go_at_call 35; go_split_ands; refine (CG _ ?_).mono ?_; assumption; rintro e w6 ⟨v6, rfl, I6, B6⟩)
                | (go_at_call 34; go_split_ands; refine (CC _ _ ?_).mono ?_; assumption; rintro e w7 ⟨rfl, B7⟩))
            have BB := below_trans' BW (below_trans' (by assumption : Below W.heap.size W w6) B7)
            clear d0 d1 d2 d3 CM CG CC B5 B6 B7
            go_wp2
            go_roundw
            case rel =>
              refine ⟨k + 1, by omega, by go_num, hide (fun i z hi hz => ?_), BB⟩
              by_cases e : i = k
              · subst e
                rw [unhide HX] at hz
                cases hz
                rw [unhide HGG]
                exact ⟨unhide HOO, unhide HMM⟩
              · exact unhide HA i z (by omega) hz
            case measure => simp [intOf]; omega
        · have CM := fun w' => maySize_any s w' false ⟨(fun h => by cases h), fun h => absurd h hO⟩
          unfold zv at CM
          have hr0 : r = false := by
            rw [Bool.eq_false_iff]
            intro h
            exact hO (((unhide HR).1 h).2.1 s (List.mem_of_getElem? (unhide HX)))
          subst hr0
          clear hO
          have f0 := fun w' (hb : Below W.heap.size W w') => cell_keep d0 hb
          have f1 := fun w' (hb : Below W.heap.size W w') => cell_keep d1 hb
          have f2 := fun w' (hb : Below W.heap.size W w') => cell_keep d2 hb
          have f3 := fun w' (hb : Below W.heap.size W w') => cell_keep d3 hb
          go_upto_region 6 with fail
          rw [← unhide HW]
          refine region_below (by kernel_rfl) (by kernel_rfl) ?_
          repeat
            (first
              | go_big_quiet_skip
              | (go_big_quiet_want; go_big_quiet_op
                 first
                   | go_big_quiet_on
                   | (apply Exists.intro
                      refine ⟨fun w' hw' => ?_, ?_⟩
                      · first
                       | exact rfl
                       | (rw [f0 w' hw']; dsimp only [Result.andThen]; rw [f1 w' hw']; dsimp only [Result.andThen]; rw [f2 w' hw']; dsimp only [Result.andThen]; rw [f3 w' hw']; exact ⟨rfl, rfl⟩)
                       | (go_at_call 33; exact (CM _).mono fun e w'' ⟨h1, h2⟩ => ⟨h1, below_trans' hw' h2⟩)
                      go_big_quiet_on)))
          refine wpQuiet_nil ?_
          intro w9 hb9
          have BB := below_trans' BW hb9
          clear d0 d1 d2 d3 CM CG
          go_wp2
          go_ret
          exact ⟨rfl, BB⟩
      · have hr1 : r = true := (unhide HR).2 ⟨by omega, fun s hs => by
            obtain ⟨i, hi⟩ := List.mem_iff_getElem?.1 hs
            exact (unhide HA i s (by have := (List.getElem?_eq_some_iff.1 hi).1; omega) hi).1, by
          have := zready_to (fun i s hi => (unhide HA i s (by have := (List.getElem?_eq_some_iff.1 hi).1; omega) hi).2) L.length (Nat.le_refl _)
          rwa [List.take_length] at this⟩
        subst hr1
        go_wp2
        go_ret
        exact ⟨rfl, hbel⟩
end Go.Proofs.Ytfniphaehggcgaa
