/-
  The contract of piece: the next n bytes, as a source of their own.
-/
import Derived.Test.YtjkaidlgooemoaaSrc6
namespace Go.Proofs.Ytjkaidlgooemoaa
open Go.RowKit

theorem Sl.grown {k : IntKind} {w w' : World} {v : Value} {l : List Int} {g : Nat} (h : Sl k w v l) (hg : w.grownBy w' (some g)) (hv : ∀ a n c, v = .slice (some a) n c → 0 < n → a.block ≠ g) : Sl k w' v l := by
  obtain ⟨a, cap, hv', hl, hm, hn, hc⟩ := h
  refine ⟨a, cap, hv', hl, hm, hn, fun x hx i hi => ?_⟩
  have h0 := hc x hx i hi
  have hb : (x.add i).block = x.block := by
    unfold Addr.add
    split <;> rfl
  exact hg.cell h0 (by rw [hb]; intro e; exact hv x _ _ (by rw [hv', hx]) (by omega) (Option.some.inj e))

theorem Sl.blk {k : IntKind} {w : World} {v : Value} {l : List Int} (h : Sl k w v l) : ∀ a n c, v = .slice (some a) n c → 0 < n → a.block < w.heap.size := by
  intro a n c hv hn
  subst hv
  obtain ⟨a', cap, hv', hl, hm, hna, hc⟩ := h
  simp only [Value.slice.injEq] at hv'
  obtain ⟨rfl, rfl, rfl⟩ := hv'
  have h0 := World.block_lt_of_cell? w _ (hc a rfl 0 hn)
  have hb : (a.add 0).block = a.block := by
    unfold Addr.add
    split <;> rfl
  rwa [hb] at h0

/-- What piece answers, and leaves. -/
def PieEnd (g : Nat) (v : Value) (T : TypeId) (l : List Int) (p n : Nat) (w : World) (e : Ending) (w' : World) : Prop :=
  if p + n ≤ l.length then ∃ sv, e = .returned (.tuple #[.agg #[sv, .int .i64 0], .bool true]) ∧ Sl .u8 w' sv ((l.drop p).take n) ∧ w'.heap[g]? = some (.cells #[v, .int .i64 ((p + n : Nat) : Int)] T (0, 0)) ∧ w.grownBy w' (some g)
  else e = .returned (.tuple #[.agg #[.slice none 0 0, .int .i64 0], .bool false]) ∧ w.grownBy w' (some g)

set_option maxHeartbeats 2000000 in
theorem piece_any (g : Nat) (T : TypeId) (v : Value) (l : List Int) (p n : Nat) (x : Int) (hx : x = n) (w : World) (hb : w.heap[g]? = some (.cells #[v, .int .i64 (p : Int)] T (0, 0)))
    (hs : Sl .u8 w v l) (hp : p ≤ l.length) (hl : l.length ≤ 1000000) (hvg : ∀ a n c, v = .slice (some a) n c → 0 < n → a.block ≠ g) :
    Calls Try.prog 59 #[.pointer (some ⟨g, 0, none⟩), .int .i64 x] w fun e w' => PieEnd g v T l p n w e w' := by
  have q0 : w.cell? ⟨g, 0, none⟩ = some v := box_cell hb rfl
  have q1 : w.cell? ⟨g, 1, none⟩ = some (.int .i64 (p : Int)) := box_cell hb rfl
  have q2 := box_frozen hb 1
  have hgw := (Array.getElem?_eq_some_iff.1 hb).1
  obtain ⟨a, cap, hv, hlc, -⟩ := id hs
  subst hv
  have HB := hide hb
  clear hb
  by_cases hn : p + n ≤ l.length
  · have t1 : ¬ ((l.length : Int) - (p : Int) < x) := by omega
    have t2 : x ≤ (l.length : Int) - (p : Int) := by omega
    have hbx : 0 ≤ x ∧ x ≤ 1000000 := by omega
    have S1 : ∀ w', Sl .u8 w' (.slice a l.length cap) l → Sl .u8 w' (sliced a p (p + n) cap 1) ((l.drop p).take n) := fun w' h => by
      have := h.cut p (p + n) (by omega) hn
      rwa [show p + n - p = n by omega] at this
    have R1 : ∀ w', (Instr.slice 31 (.slice a l.length cap) (some (.int .i64 (p : Int))) (some (.int .i64 ((p : Int) + x))) none).run Try.prog w' = .ok (sliced a p (p + n) cap 1) w' := fun w' => by
      rw [show (p : Int) + x = ((p + n : Nat) : Int) by omega]
      exact run_by_within a l.length cap p (p + n) (by omega) (by omega) w'
    obtain ⟨sa, sn, sc, hsv⟩ : ∃ sa sn sc, sliced a p (p + n) cap 1 = .slice sa sn sc := ⟨_, _, _, rfl⟩
    rw [hsv] at R1 S1
    have HS1 := hide S1
    have HX := hide hx
    clear hsv S1 hx
    go_enter Try.func59, Try.ntmps59
    go_wp2
    go_quiet (fail)
    go_wp2
    obtain ⟨W1, hW1⟩ : ∃ W1, W1 = ((w.alloc (.cells #[.slice none 0 0, .int .i64 0] 61)).drewN nq).setCell ⟨g, 1, none⟩ (.int .i64 ((p : Int) + x)) := ⟨_, rfl⟩
    have b0 : Below w.heap.size w ((w.alloc (.cells #[.slice none 0 0, .int .i64 0] 61)).drewN nq) := below_dr (below_alloc _ _) nq
    have bg : W1.heap[g]? = some (.cells #[.slice a l.length cap, .int .i64 ((p : Int) + x)] T (0, 0)) := by
      rw [hW1]
      exact box_set (box_below (unhide HB) b0) 1 _
    have br : W1.heap[w.heap.size]? = some (.cells #[.slice none 0 0, .int .i64 0] 61 (0, 0)) := by
      rw [hW1, Below.heap_setCell _ _ _ _ (by show w.heap.size ≠ g; omega)]
      exact heap_alloc_new w _
    have gr : w.grownBy W1 (some g) := by
      rw [hW1]
      exact (grown_below b0 _).trans (grown_set _ ⟨g, 1, none⟩ _)
    have x0 : W1.cell? ⟨g, 0, none⟩ = some (.slice a l.length cap) := box_cell bg rfl
    have x1 : W1.cell? ⟨g, 1, none⟩ = some (.int .i64 ((p : Int) + x)) := box_cell bg rfl
    have y0 : W1.cell? ⟨w.heap.size, 0, none⟩ = some (.slice none 0 0) := box_cell br rfl
    have y1 : W1.cell? ⟨w.heap.size, 1, none⟩ = some (.int .i64 0) := box_cell br rfl
    have z0 := box_frozen br 0
    have z1 := box_frozen br 1
    have HBG := hide bg
    have HBR := hide br
    rw [← hW1]
    have hne : ¬ (g = w.heap.size) := by omega
    have hne2 : ¬ (w.heap.size = g) := by omega
    clear hW1 b0 bg br q0 q1 q2
    go_region
    go_wp2
    have ge : w.grownBy (((W1.setCell ⟨w.heap.size, 0, none⟩ (.slice sa sn sc)).setCell ⟨w.heap.size, 1, none⟩ (.int .i64 0)).drew) (some g) := by
      have b1 : Below w.heap.size W1 (((W1.setCell ⟨w.heap.size, 0, none⟩ (.slice sa sn sc)).setCell ⟨w.heap.size, 1, none⟩ (.int .i64 0)).drew) := (((Below.refl w.heap.size W1).setCell (p := ⟨w.heap.size, 0, none⟩) (Nat.le_refl w.heap.size) _).setCell (p := ⟨w.heap.size, 1, none⟩) (Nat.le_refl w.heap.size) _).drew
      exact ⟨b1.os.trans gr.os, b1.tape.trans gr.tape, b1.output.trans gr.output, Nat.le_trans gr.size b1.size, fun k hk hk2 => (b1.block k hk).trans (gr.block k hk hk2)⟩
    refine bodyPost_ret (v := .tuple #[.agg #[.slice sa sn sc, .int .i64 0], .bool true]) (by simp [results, Try.results59, go_sem, y0, y1]) rfl ?_
    unfold PieEnd
    rw [if_pos hn]
    refine ⟨_, rfl, unhide HS1 _ (hs.grown ge hvg), ?_, ge⟩
    have h1 : (((W1.setCell ⟨w.heap.size, 0, none⟩ (.slice sa sn sc)).setCell ⟨w.heap.size, 1, none⟩ (.int .i64 0)).drew).heap[g]? = W1.heap[g]? := by
      show ((W1.setCell ⟨w.heap.size, 0, none⟩ (.slice sa sn sc)).setCell ⟨w.heap.size, 1, none⟩ (.int .i64 0)).heap[g]? = _
      rw [Below.heap_setCell _ _ _ _ hne, Below.heap_setCell _ _ _ _ hne]
    rw [h1, unhide HBG, unhide HX]
    rfl
  · have t1 : (l.length : Int) - (p : Int) < x := by omega
    go_enter Try.func59, Try.ntmps59
    go_wp2
    go_quiet (fail)
    go_wp2
    refine bodyPost_ret (v := .tuple #[.agg #[.slice none 0 0, .int .i64 0], .bool false]) (by simp [results, Try.results59, go_sem]) rfl ?_
    unfold PieEnd
    rw [if_neg hn]
    exact ⟨rfl, grown_below (((below_dr (below_alloc _ _) _).setCell (p := ⟨w.heap.size, 0, none⟩) (Nat.le_refl w.heap.size) _).setCell (p := ⟨w.heap.size, 1, none⟩) (Nat.le_refl w.heap.size) _) _⟩
end Go.Proofs.Ytjkaidlgooemoaa
