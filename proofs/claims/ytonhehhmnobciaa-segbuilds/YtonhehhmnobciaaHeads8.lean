/-
  The contract of mayHeads, at a segment that may be.
-/
import Derived.Test.YtonhehhmnobciaaHead8
namespace Go.Proofs.Ytonhehhmnobciaa
set_option maxRecDepth 100000
open Go.RowKit

theorem Valid.lens {s : Sg} {l : List Cd} {so : Bool} (h : Valid s l so) : s.ids.length = l.length ∧ s.keys.length = l.length ∧ s.lens.length = l.length ∧ s.ts.length = (S.words l).length := by
  obtain ⟨rfl, -⟩ := h
  simp [S.seg]
theorem Valid.at {s : Sg} {l : List Cd} {so : Bool} (h : Valid s l so) {d : Nat} {c : Cd} (hc : l[d]? = some c) : s.ids[d]? = some c.id ∧ s.keys[d]? = some c.key ∧ s.lens[d]? = some (c.w.length : Int) := by
  obtain ⟨rfl, -⟩ := h
  simp [S.seg, hc]

theorem fits_head8 {c : Cd} (h : S.fits c = true) : S.head c.id c.key c.w.length = true := by
  rw [S.fits_head, Bool.and_eq_true] at h
  exact h.1

set_option maxRecDepth 100000 in
set_option maxHeartbeats 4000000 in
theorem mayHeads_any (ia ka lna ta : Option Addr) (ic kc lnc tc : Nat) (s : Sg) (so : Bool) (l : List Cd) (w : World) (h : Sv w (.slice ia s.ids.length ic) (.slice ka s.keys.length kc) (.slice lna s.lens.length lnc) (.slice ta s.ts.length tc) s) (hV : Valid s l so) :
    Calls Try.prog 82 #[.agg #[.slice ia s.ids.length ic, .slice ka s.keys.length kc, .slice lna s.lens.length lnc, .slice ta s.ts.length tc, .bool so]] w fun e w' => e = .returned (.bool true) ∧ Below w.heap.size w w' := by
  obtain ⟨n1, n2, n3, -⟩ := hV.lens
  have h64 := hV.2.len
  have q0 : ¬ (64 : Int) < (s.ids.length : Int) := by omega
  have q1 : ((s.keys.length : Int) != (s.ids.length : Int)) = false := by simp; omega
  have q2 : ((s.lens.length : Int) != (s.ids.length : Int)) = false := by simp; omega
  have hnd : decide s.ids.Nodup = true := by
    rw [hV.1]
    have := hV.2.unl
    unfold S.Unlike at this
    show decide (l.map (·.id)).Nodup = true
    rw [decide_eq_true_eq, List.nodup_iff_pairwise_ne, List.pairwise_map]
    exact this
  have hsz : ∀ x ∈ s.ids, x.size ≤ maxLen := by
    intro x hx
    rw [hV.1] at hx
    obtain ⟨c, hc, rfl⟩ := List.mem_map.1 hx
    have := (S.fits_w (hV.2.fit c hc)).2.2.2.1
    unfold maxLen
    omega
  obtain ⟨W, hW⟩ : ∃ W, W = w.alloc (.cells #[.slice ia s.ids.length ic, .slice ka s.keys.length kc, .slice lna s.lens.length lnc, .slice ta s.ts.length tc, .bool so] 31) := ⟨_, rfl⟩
  have BW : Below w.heap.size w W := by rw [hW]; exact below_alloc _ _
  have X0 : W.heap[w.heap.size]? = some (.cells #[.slice ia s.ids.length ic, .slice ka s.keys.length kc, .slice lna s.lens.length lnc, .slice ta s.ts.length tc, .bool so] 31 (0, 0)) := by rw [hW]; exact heap_alloc_new w _
  have HV := h.below BW
  have HW := hide hW
  clear hW
  have CU := unlike_b _ _ W HV.1 hsz true hnd
  have HVA := hide hV
  have N1 := hide n1
  have N2 := hide n2
  have N3 := hide n3
  have hn64 : s.ids.length ≤ 64 := by omega
  clear hV hnd hsz n1 n2 n3 h
  go_enter Try.func82, Try.ntmps82
  go_wp2_with (go_at_call 64; rw [← unhide HW]; refine CU.mono ?_; rintro e w1 ⟨rfl, B1⟩; have x0 := box_cell (box_below X0 B1) (j := 0) rfl)
  have X1 := box_below X0 B1
  have BB := below_trans' BW B1
  have HV1 := HV.below B1
  clear B1 X0 CU HV x0
  go_loopw [35] (fun iv wr => ∃ k : Nat, k ≤ s.ids.length ∧ iv = .int .i64 k ∧ Below w1.heap.size w1 wr) (fun iv _ => s.ids.length - (intOf iv).toNat)
  case atStart => exact ⟨0, Nat.zero_le _, rfl, Below.refl _ _⟩
  case round =>
    obtain ⟨k, hk, rfl, hbel⟩ := hrel
    by_cases hlt : k < s.ids.length
    · obtain ⟨c, hx⟩ : ∃ c, l[k]? = some c := ⟨l[k]'(by have := unhide N1; omega), List.getElem?_eq_getElem _⟩
      obtain ⟨a1, a2, a3⟩ := (unhide HVA).at hx
      have hfc := (unhide HVA).2.fit c (List.mem_of_getElem? hx)
      have HFH := hide (fits_head8 hfc)
      have XR := box_below X1 hbel
      have HVR := HV1.below hbel
      have BBR := below_trans' BB hbel
      obtain ⟨a', c', hv', -, -, -, ho1⟩ := HVR.1.open
      simp only [Value.slice.injEq, true_and] at hv'
      obtain ⟨rfl, rfl⟩ := hv'
      obtain ⟨b1, o1, rfl, hb1, hc1⟩ := ho1 (by omega)
      have e1 := hc1 k _ a1
      obtain ⟨a', c', hv', -, -, -, ho2⟩ := HVR.2.1.open
      simp only [Value.slice.injEq, true_and] at hv'
      obtain ⟨rfl, rfl⟩ := hv'
      obtain ⟨b2, o2, rfl, hb2, hc2⟩ := ho2 (by have := unhide N1; have := unhide N2; omega)
      have e2 := hc2 k (by have := unhide N1; have := unhide N2; omega)
      rw [show s.keys.getD k 0 = c.key by simp [List.getD, a2]] at e2
      obtain ⟨a', c', hv', -, -, -, ho3⟩ := HVR.2.2.1.open
      simp only [Value.slice.injEq, true_and] at hv'
      obtain ⟨rfl, rfl⟩ := hv'
      obtain ⟨b3, o3, rfl, hb3, hc3⟩ := ho3 (by have := unhide N1; have := unhide N3; omega)
      have e3 := hc3 k (by have := unhide N1; have := unhide N3; omega)
      rw [show s.lens.getD k 0 = (c.w.length : Int) by simp [List.getD, a3]] at e3
      have y0 := box_cell XR (j := 0) rfl
      have y1 := box_cell XR (j := 1) rfl
      have y2 := box_cell XR (j := 2) rfl
      have y4 := box_cell XR (j := 4) rfl
      have p2 : (k : Int) < (s.keys.length : Int) := by have := unhide N1; have := unhide N2; omega
      have p3 : (k : Int) < (s.lens.length : Int) := by have := unhide N1; have := unhide N3; omega
      have HX := hide hx
      have HA1 := hide a1
      have HA2 := hide a2
      have HXR := hide XR
      have HHVR := hide HVR
      clear hc1 hc2 hc3 ho1 ho2 ho3 hx a1 a2 a3 XR HVR
      go_wp2
      go_quiet ((go_at_call 61; refine Calls.quiet_of_same (mayHead_b _ _ _ _ _ (unhide HFH))))
      obtain ⟨W9, hW9⟩ : ∃ W9, W9 = wr.drewN nq := ⟨_, rfl⟩
      have B9 : Below w1.heap.size w1 W9 := by rw [hW9]; exact below_dr hbel nq
      have X9 : W9.heap[w.heap.size]? = some (.cells #[.slice (some ⟨b1, o1, none⟩) s.ids.length ic, .slice (some ⟨b2, o2, none⟩) s.keys.length kc, .slice (some ⟨b3, o3, none⟩) s.lens.length lnc, .slice ta s.ts.length tc, .bool so] 31 (0, 0)) := by rw [hW9]; exact unhide HXR
      have V9 : Sv W9 (.slice (some ⟨b1, o1, none⟩) s.ids.length ic) (.slice (some ⟨b2, o2, none⟩) s.keys.length kc) (.slice (some ⟨b3, o3, none⟩) s.lens.length lnc) (.slice ta s.ts.length tc) s := (unhide HHVR).below (by rw [hW9]; exact below_dr (Below.refl _ _) nq)
      rw [← hW9]
      clear hW9 e1 e2 e3 y0 y1 y2 y4 HXR HHVR hbel BBR
      cases so with
      | false =>
        have y4 := box_cell X9 (j := 4) rfl
        go_wp2
        go_quiet (fail)
        go_wp2
        go_roundw
        case rel => exact ⟨k + 1, by omega, by go_num, below_dr' B9 _⟩
        case measure => simp [intOf]; omega
      | true =>
        have y4 := box_cell X9 (j := 4) rfl
        rcases Nat.eq_zero_or_pos k with hk0 | hk0
        · subst hk0
          go_wp2
          go_quiet (fail)
          go_wp2
          go_roundw
          case rel => exact ⟨1, by omega, by go_num, below_dr' B9 _⟩
          case measure => simp [intOf]; omega
        · obtain ⟨m, rfl⟩ : ∃ m, k = m + 1 := ⟨k - 1, by omega⟩
          obtain ⟨c0, hx0⟩ : ∃ c, l[m]? = some c := ⟨l[m]'(by have := unhide N1; omega), List.getElem?_eq_getElem _⟩
          obtain ⟨z1, z2, -⟩ := (unhide HVA).at hx0
          have HBF : Hid (S.before ⟨c0.id, c0.key, []⟩ ⟨c.id, c.key, []⟩ = true) := by
            have hup := (unhide HVA).2.up rfl
            obtain ⟨i1, r1⟩ := List.getElem?_eq_some_iff.1 hx0
            obtain ⟨i2, r2⟩ := List.getElem?_eq_some_iff.1 (unhide HX)
            have := List.pairwise_iff_getElem.1 hup m (m + 1) i1 i2 (by omega)
            rw [r1, r2] at this
            exact this
          have g0 : ∀ w', Below W9.heap.size W9 w' → w'.cell? ⟨w.heap.size, 0, none⟩ = some (.slice (some ⟨b1, o1, none⟩) s.ids.length ic) := fun w' hw' => cell_keep (box_cell X9 (j := 0) rfl) hw'
          have g1 : ∀ w', Below W9.heap.size W9 w' → w'.cell? ⟨w.heap.size, 1, none⟩ = some (.slice (some ⟨b2, o2, none⟩) s.keys.length kc) := fun w' hw' => cell_keep (box_cell X9 (j := 1) rfl) hw'
          have g2 : ∀ w', Below W9.heap.size W9 w' → w'.cell? ⟨w.heap.size, 2, none⟩ = some (.slice (some ⟨b3, o3, none⟩) s.lens.length lnc) := fun w' hw' => cell_keep (box_cell X9 (j := 2) rfl) hw'
          have g3 : ∀ w', Below W9.heap.size W9 w' → w'.cell? ⟨w.heap.size, 3, none⟩ = some (.slice ta s.ts.length tc) := fun w' hw' => cell_keep (box_cell X9 (j := 3) rfl) hw'
          have g4 : ∀ w', Below W9.heap.size W9 w' → w'.cell? ⟨w.heap.size, 4, none⟩ = some (.bool true) := fun w' hw' => cell_keep (box_cell X9 (j := 4) rfl) hw'
          have hw0 : IntKind.i64.wrap (m : Int) = m := by simp [IntKind.wrap, IntKind.bits, IntKind.signed]; omega
          have hpos : (0 : Int) < (m : Int) + 1 := by omega
          have HZ1 := hide z1
          have HZ2 := hide z2
          clear z1 z2 hx0
          go_wp2
          refine region_below (by kernel_rfl) (by kernel_rfl) ?_
          repeat
            (first
              | go_big_quiet_skip
              | (go_big_quiet_want; go_big_quiet_op
                 first
                   | go_big_quiet_on
                   | (apply Exists.intro
                      refine ⟨fun w' hw' => ?_, ?_⟩
                      · first
                       | exact rfl
                       | (rw [g0 w' hw']; dsimp only [Result.andThen]; rw [g1 w' hw']; dsimp only [Result.andThen]; rw [g2 w' hw']; dsimp only [Result.andThen]; rw [g3 w' hw']; dsimp only [Result.andThen]; rw [g4 w' hw']; exact ⟨rfl, rfl⟩)
                       | (rw [g4 w' hw']; exact ⟨rfl, rfl⟩)
                       | (go_at_call_of 102 (Value.int IntKind.i64 (m : Int)); exact (head_any (some ⟨b1, o1, none⟩) (some ⟨b2, o2, none⟩) (some ⟨b3, o3, none⟩) ta ic kc lnc tc s true m _ rfl _ _ _ (V9.below hw') (unhide HZ1) (unhide HZ2)).mono fun e w'' ⟨h1, h2⟩ => ⟨h1, below_trans' hw' h2⟩)
                       | (go_at_call 102; exact (head_any (some ⟨b1, o1, none⟩) (some ⟨b2, o2, none⟩) (some ⟨b3, o3, none⟩) ta ic kc lnc tc s true (m + 1) ((m : Int) + 1) (by omega) _ _ _ (V9.below hw') (unhide HA1) (unhide HA2)).mono fun e w'' ⟨h1, h2⟩ => ⟨h1, below_trans' hw' h2⟩)
                       | (go_at_call 12; exact (before_b _ _ _ _ _ _ _ _ _ _ (unhide HBF)).mono fun e w'' ⟨h1, h2⟩ => ⟨h1, below_trans' hw' h2⟩)
                      go_big_quiet_on)))
          refine wpQuiet_nil ?_
          intro w9 hb9
          have B10 := below_trans' B9 hb9
          go_wp2
          go_roundw
          case rel => exact ⟨m + 1 + 1, by omega, by go_num, B10⟩
          case measure => simp [intOf]; omega
    · go_wp2
      go_ret
      exact ⟨rfl, below_trans' BB hbel⟩
end Go.Proofs.Ytonhehhmnobciaa
