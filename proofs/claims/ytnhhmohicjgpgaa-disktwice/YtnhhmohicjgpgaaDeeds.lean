/-
  The contracts of the four deeds: write, sync, rename, drop.
-/
import Derived.Test.YtnhhmohicjgpgaaReadD
import Derived.Test.YtnhhmohicjgpgaaWith
import Derived.Test.YtnhhmohicjgpgaaPlainDo
import Derived.Deep.RegionHeld3
namespace Go.Proofs.Ytnhhmohicjgpgaa
open Go.RowKit

theorem cell_keep {w w1 : World} {p : Addr} {x : Value} (h : w.cell? p = some x) (hb : Below w.heap.size w w1) : w1.cell? p = some x := by
  rw [hb.cell (World.block_lt_of_cell? w _ h)]
  exact h
theorem Fits.sub {L M : List Pf} (h : Fits L) (hl : M.length ≤ L.length) (hs : ∀ f ∈ M, f ∈ L) : Fits M := ⟨Nat.le_trans hl h.1, fun f hf => h.2 f (hs f hf)⟩
theorem Fits.without {L : List Pf} (h : Fits L) (s : ByteArray) : Fits (K.without L s) := h.sub (K.without_len L s) fun _ hf => (List.mem_filter.1 hf).1

set_option maxHeartbeats 2000000 in
theorem drop_any (cap kind : Int) (v mv dv : Value) (L : List Pf) (A B : ByteArray) (w : World) (h : Fl w v L) (hmv : Mp w mv L) (hu : K.Up L) (hA : A.size ≤ maxLen) (hf : Fits L) :
    Calls Try.prog 42 #[.agg #[.int .i64 cap, v, mv], .agg #[.int .i64 kind, .string A, .string B, dv]] w fun e w' => ∃ v', e = .returned (.tuple #[v', .int .i64 (K.drop L A).2]) ∧ Fl w' v' (K.drop L A).1 ∧ Below w.heap.size w w' := by
  have B0 : Below w.heap.size w ((w.alloc (.cells #[.int .i64 cap, v, mv] 65)).alloc (.cells #[.int .i64 kind, .string A, .string B, dv] 39)) := (below_alloc _ _).alloc (by simp) _
  have H0 := h.below B0
  have M0 := hmv.below B0
  obtain ⟨mb, mn, mD, rfl, -⟩ := id hmv
  obtain ⟨a, sc, rfl, hl, hm, hna, -⟩ := h.open
  clear h hmv
  cases hfi : K.find L A with
  | none =>
    have hr : K.drop L A = ([], 2) := by simp [K.drop, hfi]
    rw [hr]
    go_enter Try.func42, Try.ntmps42
    go_wp2_with (at_lookup; refine lookup_place rfl _ _ rfl rfl M0 hu A hA rfl ?_; rw [hfi])
    go_ret2
    exact ⟨_, rfl, Fl.nil _, B0⟩
  | some i =>
    have hr : K.drop L A = (K.without L A, 0) := by simp [K.drop, hfi]
    rw [hr]
    go_enter Try.func42, Try.ntmps42
    go_wp2_with (first
      | (at_lookup; refine lookup_place rfl _ _ rfl rfl M0 hu A hA rfl ?_; rw [hfi])
      | (go_at_call 47; refine (without_any _ _ _ _ H0 hf).mono ?_; rintro e w1 ⟨v1, rfl, F1, B1⟩))
    go_ret2
    exact ⟨_, rfl, F1, below_trans' B0 B1⟩

set_option maxHeartbeats 2000000 in
theorem sync_any (cap kind : Int) (v mv dv : Value) (L : List Pf) (A B : ByteArray) (w : World) (h : Fl w v L) (hmv : Mp w mv L) (hu : K.Up L) (hA : A.size ≤ maxLen) (hf : Fits L) :
    Calls Try.prog 40 #[.agg #[.int .i64 cap, v, mv], .agg #[.int .i64 kind, .string A, .string B, dv]] w fun e w' => ∃ v', e = .returned (.tuple #[v', .int .i64 (K.sync L A).2]) ∧ Fl w' v' (K.sync L A).1 ∧ Below w.heap.size w w' := by
  have B0 : Below w.heap.size w ((w.alloc (.cells #[.int .i64 cap, v, mv] 65)).alloc (.cells #[.int .i64 kind, .string A, .string B, dv] 39)) := (below_alloc _ _).alloc (by simp) _
  have H0 := h.below B0
  have M0 := hmv.below B0
  obtain ⟨mb, mn, mD, rfl, -⟩ := id hmv
  obtain ⟨a, sc, rfl, hl, hm, hna, ho⟩ := h.open
  clear h hmv
  cases hfi : K.find L A with
  | none =>
    have hr : K.sync L A = ([], 2) := by simp [K.sync, hfi]
    rw [hr]
    go_enter Try.func40, Try.ntmps40
    go_wp2_with (at_lookup; refine lookup_place rfl _ _ rfl rfl M0 hu A hA rfl ?_; rw [hfi])
    go_ret2
    exact ⟨_, rfl, Fl.nil _, B0⟩
  | some i =>
    obtain ⟨f, hfk, hfn⟩ := K.find_some hfi
    have hr : K.sync L A = (K.with (K.without L A) ⟨f.nm, f.da, true⟩, 0) := by simp [K.sync, hfi, hfk]
    have hil := K.find_lt hfi
    obtain ⟨b, off, rfl, hb, hc⟩ := ho (by omega)
    obtain ⟨da, dc, c0, c1, c2, c3⟩ := hc i f hfk
    have ii : (i : Int) < (L.length : Int) := by omega
    rw [hr]
    clear hc ho hr hfk hfn
    go_enter Try.func40, Try.ntmps40
    go_wp2_with (at_lookup; refine lookup_place rfl _ _ rfl rfl M0 hu A hA rfl ?_; rw [hfi])
    obtain ⟨W, hW⟩ : ∃ W, W = (((w.alloc (.cells #[.int .i64 cap, .slice (some ⟨b, off, none⟩) L.length sc, .map (some mb)] 65)).alloc (.cells #[.int .i64 kind, .string A, .string B, dv] 39)).alloc (.cells #[.string f.nm, .slice da f.da.length dc, .bool true] 48)) := ⟨_, rfl⟩
    have BW : Below w.heap.size w W := by rw [hW]; exact B0.alloc (by simp; omega) _
    have k0 : W.cell? ⟨w.heap.size, 1, none⟩ = some (.slice (some ⟨b, off, none⟩) L.length sc) := by rw [hW]; simp [go_sem]
    have k1 : W.cell? ⟨w.heap.size + 1, 1, none⟩ = some (.string A) := by rw [hW]; simp [go_sem]
    have k2 : W.cell? ⟨w.heap.size + 1 + 1, 0, none⟩ = some (.string f.nm) := by rw [hW]; simp [go_sem]
    have k3 : W.cell? ⟨w.heap.size + 1 + 1, 1, none⟩ = some (.slice da f.da.length dc) := by rw [hW]; simp [go_sem]
    have k4 : W.cell? ⟨w.heap.size + 1 + 1, 2, none⟩ = some (.bool true) := by rw [hW]; simp [go_sem]
    have HW : Fl W (.slice (some ⟨b, off, none⟩) L.length sc) L := by rw [hW]; exact H0.below (below_alloc _ _)
    have SW := c3.below BW
    have fw := hf.without A
    rw [← hW]
    clear hW H0 M0 B0 c0 c1 c2 c3
    go_region_held3 (fun w' => w'.cell? ⟨w.heap.size, 1, none⟩ = some (.slice (some ⟨b, off, none⟩) L.length sc) ∧ w'.cell? ⟨w.heap.size + 1, 1, none⟩ = some (.string A) ∧ w'.cell? ⟨w.heap.size + 1 + 1, 0, none⟩ = some (.string f.nm) ∧ w'.cell? ⟨w.heap.size + 1 + 1, 1, none⟩ = some (.slice da f.da.length dc) ∧ w'.cell? ⟨w.heap.size + 1 + 1, 2, none⟩ = some (.bool true) ∧ Below W.heap.size W w')
      (first
        | (go_split_ands; exact ⟨k0, k1, k2, k3, k4, (Below.refl _ _).drew⟩)
        | (go_split_ands; exact ⟨cell_keep (by assumption) B1, cell_keep (by assumption) B1, cell_keep (by assumption) B1, cell_keep (by assumption) B1, cell_keep (by assumption) B1, below_trans' (by assumption) B1⟩)
        | (go_split_ands; exact ⟨cell_keep (by assumption) B2, cell_keep (by assumption) B2, cell_keep (by assumption) B2, cell_keep (by assumption) B2, cell_keep (by assumption) B2, below_trans' (by assumption) B2⟩))
      (first
        | (go_at_call 47; go_split_ands; refine (without_any _ _ _ _ (HW.below ?_) hf).mono ?_; assumption; rintro e w1 ⟨v1, rfl, F1, B1⟩)
        | (go_at_call 46; go_split_ands; refine (with_any _ _ _ ⟨f.nm, f.da, true⟩ _ F1 (SW.below ?_) fw).mono ?_; assumption; rintro e w2 ⟨v2, rfl, F2, B2⟩))
    go_wp2
    go_ret2
    exact ⟨_, rfl, F2, below_trans' (below_trans' BW.drew B1) B2⟩

set_option maxHeartbeats 4000000 in
theorem rename_any (cap kind : Int) (v mv dv : Value) (L : List Pf) (A B : ByteArray) (w : World) (h : Fl w v L) (hmv : Mp w mv L) (hu : K.Up L) (hA : A.size ≤ maxLen) (hBs : B.size ≤ maxLen) (hf : Fits L) :
    Calls Try.prog 41 #[.agg #[.int .i64 cap, v, mv], .agg #[.int .i64 kind, .string A, .string B, dv]] w fun e w' => ∃ v', e = .returned (.tuple #[v', .int .i64 (K.rename L A B).2]) ∧ Fl w' v' (K.rename L A B).1 ∧ Below w.heap.size w w' := by
  have B0 : Below w.heap.size w ((w.alloc (.cells #[.int .i64 cap, v, mv] 65)).alloc (.cells #[.int .i64 kind, .string A, .string B, dv] 39)) := (below_alloc _ _).alloc (by simp) _
  have H0 := h.below B0
  have M0 := hmv.below B0
  obtain ⟨mb, mn, mD, rfl, -⟩ := id hmv
  obtain ⟨a, sc, rfl, hl, hm, hna, ho⟩ := h.open
  clear h hmv
  cases hnb : K.name B with
  | false =>
    have hr : K.rename L A B = ([], 1) := by simp [K.rename, hnb]
    rw [hr]
    go_enter Try.func41, Try.ntmps41
    go_wp2_with (go_at_call 33; refine (isName_b _ _ hBs _ hnb).mono ?_; rintro e w' ⟨rfl, rfl⟩)
    go_ret2
    exact ⟨_, rfl, Fl.nil _, B0⟩
  | true =>
    cases hfi : K.find L A with
    | none =>
      have hr : K.rename L A B = ([], 2) := by simp [K.rename, hfi, hnb]
      rw [hr]
      go_enter Try.func41, Try.ntmps41
      go_wp2_with (first | (go_at_call 33; refine (isName_b _ _ hBs _ hnb).mono ?_; rintro e w' ⟨rfl, rfl⟩) | (at_lookup; refine lookup_place rfl _ _ rfl rfl M0 hu A hA rfl ?_; rw [hfi]))
      go_ret2
      exact ⟨_, rfl, Fl.nil _, B0⟩
    | some i =>
      obtain ⟨f, hfk, hfn⟩ := K.find_some hfi
      have hr : K.rename L A B = (K.with (K.without (K.without L A) B) ⟨B, f.da, f.su⟩, 0) := by simp [K.rename, hfi, hfk, hnb]
      have hil := K.find_lt hfi
      obtain ⟨b, off, rfl, hb, hc⟩ := ho (by omega)
      obtain ⟨da, dc, c0, c1, c2, c3⟩ := hc i f hfk
      have ii : (i : Int) < (L.length : Int) := by omega
      rw [hr]
      clear hc ho hr hfk hfn
      go_enter Try.func41, Try.ntmps41
      go_wp2_with (first | (go_at_call 33; refine (isName_b _ _ hBs _ hnb).mono ?_; rintro e w' ⟨rfl, rfl⟩) | (at_lookup; refine lookup_place rfl _ _ rfl rfl M0 hu A hA rfl ?_; rw [hfi]))
      obtain ⟨W, hW⟩ : ∃ W, W = (((w.alloc (.cells #[.int .i64 cap, .slice (some ⟨b, off, none⟩) L.length sc, .map (some mb)] 65)).alloc (.cells #[.int .i64 kind, .string A, .string B, dv] 39)).alloc (.cells #[.string B, .slice da f.da.length dc, .bool f.su] 48)) := ⟨_, rfl⟩
      have BW : Below w.heap.size w W := by rw [hW]; exact B0.alloc (by simp; omega) _
      have k0 : W.cell? ⟨w.heap.size, 1, none⟩ = some (.slice (some ⟨b, off, none⟩) L.length sc) := by rw [hW]; simp [go_sem]
      have k1 : W.cell? ⟨w.heap.size + 1, 1, none⟩ = some (.string A) := by rw [hW]; simp [go_sem]
      have k5 : W.cell? ⟨w.heap.size + 1, 2, none⟩ = some (.string B) := by rw [hW]; simp [go_sem]
      have k2 : W.cell? ⟨w.heap.size + 1 + 1, 0, none⟩ = some (.string B) := by rw [hW]; simp [go_sem]
      have k3 : W.cell? ⟨w.heap.size + 1 + 1, 1, none⟩ = some (.slice da f.da.length dc) := by rw [hW]; simp [go_sem]
      have k4 : W.cell? ⟨w.heap.size + 1 + 1, 2, none⟩ = some (.bool f.su) := by rw [hW]; simp [go_sem]
      have HW : Fl W (.slice (some ⟨b, off, none⟩) L.length sc) L := by rw [hW]; exact H0.below (below_alloc _ _)
      have SW := c3.below BW
      have fw := hf.without A
      have fw2 := fw.without B
      rw [← hW]
      clear hW H0 M0 B0 c0 c1 c2 c3
      go_region_held3 (fun w' => w'.cell? ⟨w.heap.size, 1, none⟩ = some (.slice (some ⟨b, off, none⟩) L.length sc) ∧ w'.cell? ⟨w.heap.size + 1, 1, none⟩ = some (.string A) ∧ w'.cell? ⟨w.heap.size + 1, 2, none⟩ = some (.string B) ∧ w'.cell? ⟨w.heap.size + 1 + 1, 0, none⟩ = some (.string B) ∧ w'.cell? ⟨w.heap.size + 1 + 1, 1, none⟩ = some (.slice da f.da.length dc) ∧ w'.cell? ⟨w.heap.size + 1 + 1, 2, none⟩ = some (.bool f.su) ∧ Below W.heap.size W w')
        (first
          | (go_split_ands; exact ⟨k0, k1, k5, k2, k3, k4, (Below.refl _ _).drew⟩)
          | (go_split_ands; exact ⟨cell_keep (by assumption) B1, cell_keep (by assumption) B1, cell_keep (by assumption) B1, cell_keep (by assumption) B1, cell_keep (by assumption) B1, cell_keep (by assumption) B1, below_trans' (by assumption) B1⟩)
          | (go_split_ands; exact ⟨cell_keep (by assumption) B2, cell_keep (by assumption) B2, cell_keep (by assumption) B2, cell_keep (by assumption) B2, cell_keep (by assumption) B2, cell_keep (by assumption) B2, below_trans' (by assumption) B2⟩)
          | (go_split_ands; exact ⟨cell_keep (by assumption) B3, cell_keep (by assumption) B3, cell_keep (by assumption) B3, cell_keep (by assumption) B3, cell_keep (by assumption) B3, cell_keep (by assumption) B3, below_trans' (by assumption) B3⟩))
        (first
          | (go_at_call_of 47 (Value.string A); go_split_ands; refine (without_any (.slice (some ⟨b, off, none⟩) L.length sc) _ _ _ (HW.below ?_) hf).mono ?_; assumption; rintro e w1 ⟨v1, rfl, F1, B1⟩)
          | (go_at_call_of 47 (Value.string B); go_split_ands; refine (without_any _ _ _ _ F1 fw).mono ?_; rintro e w2 ⟨v2, rfl, F2, B2⟩)
          | (go_at_call 46; go_split_ands; refine (with_any _ _ _ ⟨B, f.da, f.su⟩ _ F2 (SW.below ?_) fw2).mono ?_; assumption; rintro e w3 ⟨v3, rfl, F3, B3⟩))
      go_wp2
      go_ret2
      exact ⟨_, rfl, F3, below_trans' (below_trans' (below_trans' BW.drew B1) B2) B3⟩
end Go.Proofs.Ytnhhmohicjgpgaa
