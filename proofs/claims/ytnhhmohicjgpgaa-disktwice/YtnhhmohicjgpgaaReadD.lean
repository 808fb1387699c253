/-
  The contracts of Read, New, and of the document's own Read.
-/
import Derived.Test.YtnhhmohicjgpgaaFind
namespace Go.Proofs.Ytnhhmohicjgpgaa
open Go.RowKit

set_option maxHeartbeats 1000000 in
theorem readd_any (cap : Int) (v : Value) (L : List Pf) (s : ByteArray) (w : World) (h : Fl w v L) (hf : Fits L) (hs : s.size ≤ maxLen) :
    Calls Try.prog 12 #[.agg #[.int .i64 cap, v], .string s] w fun e w' => ∃ v', e = .returned (.tuple #[v', .int .i64 (K.read cap L s).2]) ∧ Sl .u8 w' v' (K.read cap L s).1 ∧ Below w.heap.size w w' := by
  have H0 := h.below (below_alloc w (.cells #[.int .i64 cap, v] 24))
  obtain ⟨a, sc, rfl, hl, hm, hna, -⟩ := h.open
  clear h
  cases hmay : K.may cap L with
  | false =>
    have hr : K.read cap L s = ([], 1) := by simp [K.read, hmay]
    rw [hr]
    go_enter Try.func12, Try.ntmps12
    go_wp2_with fail
    refine (may_b _ _ _ _ H0 hf _ hmay).mono ?_
    rintro e w1 ⟨rfl, B1⟩
    go_wp2
    go_ret2
    exact ⟨_, rfl, Sl.nil _ _, below_trans' (below_alloc _ _) B1⟩
  | true =>
    cases hfi : K.find L s with
    | none =>
      have hr : K.read cap L s = ([], 2) := by simp [K.read, hmay, hfi]
      have hat : (if K.may cap L = true then K.at L s else -1) = -1 := by simp [K.at, hfi]
      rw [hr]
      go_enter Try.func12, Try.ntmps12
      go_wp2_with fail
      refine (may_b _ _ _ _ H0 hf _ hmay).mono ?_
      rintro e w1 ⟨rfl, B1⟩
      have H1 := H0.below B1
      have e0 : w1.cell? ⟨w.heap.size, 0, none⟩ = some (.int .i64 cap) := (B1.cell (p := ⟨w.heap.size, 0, none⟩) (by simp)).trans (by simp)
      have e1 : w1.cell? ⟨w.heap.size, 1, none⟩ = some (.slice a L.length sc) := (B1.cell (p := ⟨w.heap.size, 1, none⟩) (by simp)).trans (by simp)
      have HAT := hide hat
      clear hat
      go_wp2_with fail
      refine (find_b _ _ _ _ _ H1 hf hs _ (unhide HAT)).mono ?_
      rintro e w2 ⟨rfl, B2⟩
      go_wp2
      go_ret2
      exact ⟨_, rfl, Sl.nil _ _, below_trans' (below_trans' (below_alloc _ _) B1) B2⟩
    | some i =>
      obtain ⟨f, hfi2, hfn⟩ := K.find_some hfi
      have hr : K.read cap L s = (f.da, 0) := by simp [K.read, hmay, hfi, hfi2]
      have hat : (if K.may cap L = true then K.at L s else -1) = (i : Int) := by simp [K.at, hfi, hmay]
      have hil := K.find_lt hfi
      have hfl := (hf.2 f (List.mem_of_getElem? hfi2)).1
      rw [hr]
      have HAT := hide hat
      have HFI := hide hfi2
      clear hat hfi hfn hr hfi2
      go_enter Try.func12, Try.ntmps12
      go_wp2_with fail
      refine (may_b _ _ _ _ H0 hf _ hmay).mono ?_
      rintro e w1 ⟨rfl, B1⟩
      have H1 := H0.below B1
      have e0 : w1.cell? ⟨w.heap.size, 0, none⟩ = some (.int .i64 cap) := (B1.cell (p := ⟨w.heap.size, 0, none⟩) (by simp)).trans (by simp)
      have e1 : w1.cell? ⟨w.heap.size, 1, none⟩ = some (.slice a L.length sc) := (B1.cell (p := ⟨w.heap.size, 1, none⟩) (by simp)).trans (by simp)
      go_wp2_with fail
      refine (find_b _ _ _ _ _ H1 hf hs _ (unhide HAT)).mono ?_
      rintro e w2 ⟨rfl, B2⟩
      have f1 : w2.cell? ⟨w.heap.size, 1, none⟩ = some (.slice a L.length sc) := (B2.cell (p := ⟨w.heap.size, 1, none⟩) (World.block_lt_of_cell? w1 _ e1)).trans e1
      have H2 := H1.below B2
      have BB := below_trans' (below_trans' (below_alloc _ _) B1) B2
      obtain ⟨a', sc', hv', -, -, -, ho⟩ := H2.open
      simp only [Value.slice.injEq, true_and] at hv'
      obtain ⟨rfl, rfl⟩ := hv'
      obtain ⟨b, off, rfl, hb, hc⟩ := ho (by omega)
      obtain ⟨da, dc, c0, c1, c2, c3⟩ := hc i f (unhide HFI)
      clear e0 e1 H0 H1 B1 B2 hc ho c0 c2
      go_wp2_with fail
      refine (clone_b _ _ _ c3 (by omega)).mono ?_
      rintro e w3 ⟨v3, rfl, S3, B3⟩
      go_wp2
      go_ret2
      exact ⟨_, rfl, S3, below_trans' BB B3⟩

set_option maxHeartbeats 1000000 in
theorem rreadd_any (cap : Int) (v : Value) (L : List Pf) (s : ByteArray) (w : World) (h : Fl w v L) (hf : Fits L) :
    Calls Try.prog 13 #[.agg #[.int .i64 cap, v], .string s] w fun e w' => ∃ v', e = .returned (.tuple #[v', .int .i64 (K.read cap L s).2]) ∧ Sl .u8 w' v' (K.read cap L s).1 ∧ Below w.heap.size w w' := by
  have H0 := h.below (below_alloc w (.cells #[.int .i64 cap, v] 24))
  obtain ⟨a, sc, rfl, hl, hm, hna, -⟩ := h.open
  clear h
  cases hmay : K.may cap L with
  | false =>
    have hr : K.read cap L s = ([], 1) := by simp [K.read, hmay]
    rw [hr]
    go_enter Try.func13, Try.ntmps13
    go_wp2_with fail
    refine (rmay_b _ _ _ _ H0 hf _ hmay).mono ?_
    rintro e w1 ⟨rfl, B1⟩
    go_wp2
    go_ret2
    exact ⟨_, rfl, Sl.nil _ _, below_trans' (below_alloc _ _) B1⟩
  | true =>
    cases hfi : K.find L s with
    | none =>
      have hr : K.read cap L s = ([], 2) := by simp [K.read, hmay, hfi]
      have hat : (if K.may cap L = true then K.at L s else -1) = -1 := by simp [K.at, hfi]
      rw [hr]
      go_enter Try.func13, Try.ntmps13
      go_wp2_with fail
      refine (rmay_b _ _ _ _ H0 hf _ hmay).mono ?_
      rintro e w1 ⟨rfl, B1⟩
      have H1 := H0.below B1
      have e0 : w1.cell? ⟨w.heap.size, 0, none⟩ = some (.int .i64 cap) := (B1.cell (p := ⟨w.heap.size, 0, none⟩) (by simp)).trans (by simp)
      have e1 : w1.cell? ⟨w.heap.size, 1, none⟩ = some (.slice a L.length sc) := (B1.cell (p := ⟨w.heap.size, 1, none⟩) (by simp)).trans (by simp)
      have HAT := hide hat
      clear hat
      go_wp2_with fail
      refine (rfind_b _ _ _ _ _ H1 hf _ (unhide HAT)).mono ?_
      rintro e w2 ⟨rfl, B2⟩
      go_wp2
      go_ret2
      exact ⟨_, rfl, Sl.nil _ _, below_trans' (below_trans' (below_alloc _ _) B1) B2⟩
    | some i =>
      obtain ⟨f, hfi2, hfn⟩ := K.find_some hfi
      have hr : K.read cap L s = (f.da, 0) := by simp [K.read, hmay, hfi, hfi2]
      have hat : (if K.may cap L = true then K.at L s else -1) = (i : Int) := by simp [K.at, hfi, hmay]
      have hil := K.find_lt hfi
      rw [hr]
      have HAT := hide hat
      have HFI := hide hfi2
      clear hat hfi hfn hr hfi2
      go_enter Try.func13, Try.ntmps13
      go_wp2_with fail
      refine (rmay_b _ _ _ _ H0 hf _ hmay).mono ?_
      rintro e w1 ⟨rfl, B1⟩
      have H1 := H0.below B1
      have e0 : w1.cell? ⟨w.heap.size, 0, none⟩ = some (.int .i64 cap) := (B1.cell (p := ⟨w.heap.size, 0, none⟩) (by simp)).trans (by simp)
      have e1 : w1.cell? ⟨w.heap.size, 1, none⟩ = some (.slice a L.length sc) := (B1.cell (p := ⟨w.heap.size, 1, none⟩) (by simp)).trans (by simp)
      go_wp2_with fail
      refine (rfind_b _ _ _ _ _ H1 hf _ (unhide HAT)).mono ?_
      rintro e w2 ⟨rfl, B2⟩
      have f1 : w2.cell? ⟨w.heap.size, 1, none⟩ = some (.slice a L.length sc) := (B2.cell (p := ⟨w.heap.size, 1, none⟩) (World.block_lt_of_cell? w1 _ e1)).trans e1
      have H2 := H1.below B2
      have BB := below_trans' (below_trans' (below_alloc _ _) B1) B2
      obtain ⟨a', sc', hv', -, -, -, ho⟩ := H2.open
      simp only [Value.slice.injEq, true_and] at hv'
      obtain ⟨rfl, rfl⟩ := hv'
      obtain ⟨b, off, rfl, hb, hc⟩ := ho (by omega)
      obtain ⟨da, dc, c0, c1, c2, c3⟩ := hc i f (unhide HFI)
      clear e0 e1 H0 H1 B1 B2 hc ho c0 c2
      go_wp2
      go_ret2
      exact ⟨_, rfl, c3, BB⟩

theorem bcell {W w1 : World} (hb : Below W.heap.size W w1) : (∀ b o, b < W.heap.size → w1.cell? ⟨b, o, none⟩ = W.cell? ⟨b, o, none⟩) ∧ (∀ b o, b < W.heap.size → w1.frozen? ⟨b, o, none⟩ = W.frozen? ⟨b, o, none⟩) :=
  ⟨fun b o h => hb.cell (p := ⟨b, o, none⟩) h, fun b o h => hb.frozen (p := ⟨b, o, none⟩) h⟩

set_option maxHeartbeats 1000000 in
theorem new_any (room : Int) (w : World) (r : Bool) (hr : K.may room [] = r) :
    Calls Try.prog 15 #[.int .i64 room] w fun e w' => e = .returned (.tuple #[.agg #[.int .i64 (if r = true then room else 0), .slice none 0 0], .bool r]) ∧ Below w.heap.size w w' := by
  have hF : Fits [] := ⟨by simp, by simp⟩
  cases r with
  | false =>
    go_enter Try.func15, Try.ntmps15
    go_wp2_with fail
    refine (may_b _ _ _ _ (Fl.nil _) hF _ hr).mono ?_
    rintro e w1 ⟨rfl, B1⟩
    obtain ⟨bc, bf⟩ := bcell B1
    have x0 : w1.cell? ⟨w.heap.size, 0, none⟩ = some (.int .i64 0) := (bc _ _ (by simp; omega)).trans (by simp)
    have x1 : w1.cell? ⟨w.heap.size, 1, none⟩ = some (.slice none 0 0) := (bc _ _ (by simp; omega)).trans (by simp)
    have hz : w.heap.size + 1 < w1.heap.size := by have := B1.size; simp at this; omega
    have BB := below_trans' ((below_alloc w _).alloc (by simp) _) B1
    clear B1
    go_wp2
    exact bodyPost_ret (v := .tuple #[.agg #[.int .i64 0, .slice none 0 0], .bool false]) (by simp [results, Try.results15, go_sem, x0, x1]) rfl ⟨rfl, (BB.setCell (Nat.le_refl _) _).setCell (Nat.le_refl _) _⟩
  | true =>
    go_enter Try.func15, Try.ntmps15
    go_wp2_with fail
    refine (may_b _ _ _ _ (Fl.nil _) hF _ hr).mono ?_
    rintro e w1 ⟨rfl, B1⟩
    obtain ⟨bc, bf⟩ := bcell B1
    have x0 : w1.cell? ⟨w.heap.size, 0, none⟩ = some (.int .i64 0) := (bc _ _ (by simp; omega)).trans (by simp)
    have x1 : w1.cell? ⟨w.heap.size, 1, none⟩ = some (.slice none 0 0) := (bc _ _ (by simp; omega)).trans (by simp)
    have hz : w.heap.size + 1 < w1.heap.size := by have := B1.size; simp at this; omega
    have BB := below_trans' ((below_alloc w _).alloc (by simp) _) B1
    clear B1
    go_wp2
    exact bodyPost_ret (v := .tuple #[.agg #[.int .i64 room, .slice none 0 0], .bool true]) (by simp [results, Try.results15, go_sem, x0, x1]) rfl ⟨rfl, (BB.setCell (Nat.le_refl _) _).setCell (Nat.le_refl _) _⟩
end Go.Proofs.Ytnhhmohicjgpgaa
