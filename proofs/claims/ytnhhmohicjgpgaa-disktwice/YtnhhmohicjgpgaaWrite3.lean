/-
  The contract of the deed write.
-/
import Derived.Test.YtnhhmohicjgpgaaDeeds
namespace Go.Proofs.Ytnhhmohicjgpgaa
open Go.RowKit

theorem wrap_i64 (n : Int) (h₀ : -9223372036854775808 ≤ n) (h₁ : n ≤ 9223372036854775807) : IntKind.i64.wrap n = n := by rw [IntKind.wrap_i64]; omega

theorem cells_below {W : World} {p : Addr} {x : Value} (h : W.cell? p = some x) : ∀ w', Below W.heap.size W w' → w'.cell? p = some x := fun _ hb => cell_keep h hb

set_option maxHeartbeats 4000000 in
theorem write_any (cap kind : Int) (v mv dv : Value) (L : List Pf) (A B : ByteArray) (z : List Int) (w : World) (h : Fl w v L) (hmv : Mp w mv L) (hdv : Sl .u8 w dv z) (hz : z.length ≤ 1000) (hu : K.Up L) (hA : A.size ≤ maxLen) (hf : Fits L) :
    Calls Try.prog 39 #[.agg #[.int .i64 cap, v, mv], .agg #[.int .i64 kind, .string A, .string B, dv]] w fun e w' => ∃ v', e = .returned (.tuple #[v', .int .i64 (K.write cap L A z).2]) ∧ Fl w' v' (K.write cap L A z).1 ∧ Below w.heap.size w w' := by
  have B0 : Below w.heap.size w ((w.alloc (.cells #[.int .i64 cap, v, mv] 65)).alloc (.cells #[.int .i64 kind, .string A, .string B, dv] 39)) := (below_alloc _ _).alloc (by simp) _
  have H0 := h.below B0
  have M0 := hmv.below B0
  have S0 := hdv.below B0
  obtain ⟨mb, mn, mD, rfl, -⟩ := id hmv
  obtain ⟨a, sc, rfl, hl, hm, hna, -⟩ := h.open
  obtain ⟨dda, ddc, rfl, -⟩ := id hdv
  have hsum := hf.sum
  clear h hmv hdv
  cases hfi : K.find L A with
  | some i =>
    have hr : K.write cap L A z = ([], 3) := by simp [K.write, hfi]
    rw [hr]
    go_enter Try.func39, Try.ntmps39
    go_wp2_with (at_lookup; refine lookup_place rfl _ _ rfl rfl M0 hu A hA rfl ?_; rw [hfi])
    go_ret2
    exact ⟨_, rfl, Fl.nil _, B0⟩
  | none =>
    obtain ⟨W, hW⟩ : ∃ W, W = ((w.alloc (.cells #[.int .i64 cap, .slice a L.length sc, .map (some mb)] 65)).alloc (.cells #[.int .i64 kind, .string A, .string B, .slice dda z.length ddc] 39)) := ⟨_, rfl⟩
    have k0 : W.cell? ⟨w.heap.size, 0, none⟩ = some (.int .i64 cap) := by rw [hW]; simp [go_sem]
    have k1 : W.cell? ⟨w.heap.size, 1, none⟩ = some (.slice a L.length sc) := by rw [hW]; simp [go_sem]
    have k2 : W.cell? ⟨w.heap.size + 1, 1, none⟩ = some (.string A) := by rw [hW]; simp [go_sem]
    have k3 : W.cell? ⟨w.heap.size + 1, 3, none⟩ = some (.slice dda z.length ddc) := by rw [hW]; simp [go_sem]
    rw [← hW] at B0 H0 S0
    have HWQ := hide hW
    have e0 := cells_below k0
    have e1 := cells_below k1
    have e3 := cells_below k3
    have hwrap : IntKind.i64.wrap ((K.sum L : Int) + (z.length : Int)) = (K.sum L : Int) + (z.length : Int) := wrap_i64 _ (by omega) (by omega)
    by_cases h64 : L.length = 64
    · have h64' : ((L.length : Int) == 64) = true := by rw [h64]; rfl
      have hr : K.write cap L A z = ([], 4) := by simp [K.write, hfi, h64]
      rw [hr]
      clear hr h64 hW
      go_enter Try.func39, Try.ntmps39
      go_wp2_with (at_lookup; refine lookup_place rfl _ _ rfl rfl M0 hu A hA rfl ?_; rw [hfi])
      rw [← unhide HWQ]
      refine region_below (by kernel_rfl) (by kernel_rfl) ?_
      iterate 19
        (first
          | go_big_quiet_skip
          | (go_big_quiet_want; go_big_quiet_op
             first
               | go_big_quiet_on
               | (apply Exists.intro
                  refine ⟨fun w' hw' => ?_, ?_⟩
                  · first
                   | exact rfl
                   | (rw [e0 w' hw']; exact ⟨rfl, rfl⟩)
                   | (rw [e1 w' hw']; exact ⟨rfl, rfl⟩)
                   | (rw [e3 w' hw']; exact ⟨rfl, rfl⟩)
                   | (go_at_call 34; exact (size_any _ _ _ (H0.below hw') (by omega)).mono fun e w'' ⟨h1, h2⟩ => ⟨h1, below_trans' hw' h2⟩)
                  go_big_quiet_on)))
      refine wpQuiet_nil ?_
      intro w9 hb9
      go_wp2
      go_ret2
      exact ⟨_, rfl, Fl.nil _, below_trans' B0 hb9⟩
    · have h64' : ((L.length : Int) == 64) = false := by simp; omega
      by_cases hroom : cap < (K.sum L : Int) + z.length
      · have hr : K.write cap L A z = ([], 4) := by simp [K.write, hfi, hroom]
        rw [hr]
        have hroom' : decide (cap < (K.sum L : Int) + z.length) = true := by simpa using hroom
        clear hr h64 hW hroom
        go_enter Try.func39, Try.ntmps39
        go_wp2_with (at_lookup; refine lookup_place rfl _ _ rfl rfl M0 hu A hA rfl ?_; rw [hfi])
        rw [← unhide HWQ]
        refine region_below (by kernel_rfl) (by kernel_rfl) ?_
        iterate 19
          (first
            | go_big_quiet_skip
            | (go_big_quiet_want; go_big_quiet_op
               first
                 | go_big_quiet_on
                 | (apply Exists.intro
                    refine ⟨fun w' hw' => ?_, ?_⟩
                    · first
                     | exact rfl
                     | (rw [e0 w' hw']; exact ⟨rfl, rfl⟩)
                     | (rw [e1 w' hw']; exact ⟨rfl, rfl⟩)
                     | (rw [e3 w' hw']; exact ⟨rfl, rfl⟩)
                     | (go_at_call 34; exact (size_any _ _ _ (H0.below hw') (by omega)).mono fun e w'' ⟨h1, h2⟩ => ⟨h1, below_trans' hw' h2⟩)
                    go_big_quiet_on)))
        refine wpQuiet_nil ?_
        intro w9 hb9
        go_wp2
        go_ret2
        exact ⟨_, rfl, Fl.nil _, below_trans' B0 hb9⟩
      · have hr : K.write cap L A z = (K.with L ⟨A, z, false⟩, 0) := by simp [K.write, hfi, h64, hroom]
        rw [hr]
        have hroom' : decide (cap < (K.sum L : Int) + z.length) = false := by simpa using hroom
        clear hr h64 hW hroom
        go_enter Try.func39, Try.ntmps39
        go_wp2_with (at_lookup; refine lookup_place rfl _ _ rfl rfl M0 hu A hA rfl ?_; rw [hfi])
        rw [← unhide HWQ]
        refine region_below (by kernel_rfl) (by kernel_rfl) ?_
        iterate 19
          (first
            | go_big_quiet_skip
            | (go_big_quiet_want; go_big_quiet_op
               first
                 | go_big_quiet_on
                 | (apply Exists.intro
                    refine ⟨fun w' hw' => ?_, ?_⟩
                    · first
                     | exact rfl
                     | (rw [e0 w' hw']; exact ⟨rfl, rfl⟩)
                     | (rw [e1 w' hw']; exact ⟨rfl, rfl⟩)
                     | (rw [e3 w' hw']; exact ⟨rfl, rfl⟩)
                     | (go_at_call 34; exact (size_any _ _ _ (H0.below hw') (by omega)).mono fun e w'' ⟨h1, h2⟩ => ⟨h1, below_trans' hw' h2⟩)
                    go_big_quiet_on)))
        refine wpQuiet_nil ?_
        intro w9 hb9
        have H9 := H0.below hb9
        have S9 := S0.below hb9
        have q1 := e1 _ hb9
        have q2 := cell_keep k2 hb9
        have q3 := e3 _ hb9
        have B9 := below_trans' B0 hb9
        clear hb9 e0 e1 e3 k0 k1 k2 k3 H0 S0 M0 B0
        go_wp2
        go_region_held3 (fun w' => w'.cell? ⟨w.heap.size, 1, none⟩ = some (.slice a L.length sc) ∧ w'.cell? ⟨w.heap.size + 1, 1, none⟩ = some (.string A) ∧ w'.cell? ⟨w.heap.size + 1, 3, none⟩ = some (.slice dda z.length ddc) ∧ Below w9.heap.size w9 w')
          (first
            | (go_split_ands; exact ⟨q1, q2, q3, (Below.refl _ _).drew⟩)
            | (go_split_ands; exact ⟨cell_keep (by assumption) B1, cell_keep (by assumption) B1, cell_keep (by assumption) B1, below_trans' (by assumption) B1⟩)
            | (go_split_ands; exact ⟨cell_keep (by assumption) B2, cell_keep (by assumption) B2, cell_keep (by assumption) B2, below_trans' (by assumption) B2⟩))
          (first
            | (go_at_call 29; go_split_ands; refine (clone_b _ _ _ (S9.below ?_) (by omega)).mono ?_; assumption; rintro e w1 ⟨v1, rfl, F1, B1⟩; obtain ⟨xa, xc, rfl, -⟩ := id F1)
            | (go_at_call 46; go_split_ands; refine (with_any _ _ _ ⟨A, z, false⟩ _ (H9.below ?_) F1 hf).mono ?_; assumption; rintro e w2 ⟨v2, rfl, F2, B2⟩))
        go_wp2
        go_ret2
        exact ⟨_, rfl, F2, below_trans' (below_trans' B9.drew B1) B2⟩
end Go.Proofs.Ytnhhmohicjgpgaa
