/-
  The chapter's examples hold: the contract of the statements' own 'awake' (frame).
-/
import Derived.Test.YtfffjolodilhoaaOpen
import Derived.Test.YtfffjolodilhoaaPlainOpen
namespace Go.Proofs.Ytfffjolodilhoaa
open Go.RowKit

theorem Sl.at {k : IntKind} {w : World} {b off n cap : Nat} {zs : List Int} (h : Sl k w (.slice (some ⟨b, off, none⟩) n cap) zs) (i : Nat) (hi : i < n) : w.cell? ⟨b, off + i, none⟩ = some (.int k (zs.getD i 0)) := by
  obtain ⟨a', cap', hv, hl, hm, hn, hc⟩ := h
  simp only [Value.slice.injEq] at hv
  obtain ⟨rfl, rfl, rfl⟩ := hv
  rw [← Addr.add_lit]
  exact hc _ rfl i hi

theorem open_to {w w' : World} {e : Ending} {r : List Int × Int} {x : List Int} {n : Int} (hr : r = (x, n)) (h : OpenEnd w r e w') : ∃ v', e = .returned (.tuple #[v', .int .i64 n]) ∧ Sl .u8 w' v' x ∧ Below w.heap.size w w' := by
  subst hr
  obtain ⟨v', h1, h2, h3⟩ := h
  exact ⟨v', h1, Sl.owned h2, h3⟩

theorem open_b (v : Value) (l : List Int) (kind : Int) (w : World) (h : Sl .u8 w v l) (hb : V.Byt l) (x : List Int) (n : Int) (hr : F.opened l kind = (x, n)) :
    Calls Try.prog 10 #[v, .int .u8 kind] w fun e w' => ∃ v', e = .returned (.tuple #[v', .int .i64 n]) ∧ Sl .u8 w' v' x ∧ Below w.heap.size w w' :=
  (open_any v l kind w h hb).mono fun _ _ h => open_to hr h

theorem wrap_b (kind : Int) (v : Value) (l : List Int) (w : World) (h : Sl .u8 w v l) (hb : V.Byt l) (hk : 0 ≤ kind ∧ kind ≤ 255) (x : List Int) (hx : F.wrap kind l = x) :
    Calls Try.prog 13 #[.int .u8 kind, v] w fun e w' => ∃ v', e = .returned v' ∧ Sl .u8 w' v' x ∧ Below w.heap.size w w' :=
  (wrap_any kind v l w h hb hk).mono fun _ _ ⟨v', h1, h2, h3⟩ => ⟨v', h1, by rw [← hx]; exact Sl.owned h2, h3⟩

theorem cell_freeze (w : World) (a : Addr) (n : Nat) (x : Addr) : (w.freeze a n).cell? x = w.cell? x := by
  unfold World.freeze
  split
  · rfl
  · unfold World.cell?
    simp only [Array.getElem?_modify]
    by_cases h : a.block = x.block
    · rw [if_pos h]
      cases w.heap[x.block]? with
      | none => rfl
      | some o => cases o <;> rfl
    · rw [if_neg h]

theorem below_freeze (w : World) (a : Addr) (n : Nat) {B : Nat} (hB : B ≤ a.block) : Below B w (w.freeze a n) := by
  unfold World.freeze
  split
  · exact Below.refl _ _
  · refine ⟨rfl, rfl, rfl, by simp, fun k hk => ?_⟩
    rw [Array.getElem?_modify, if_neg (by omega)]

/-- '[]byte(text)' of a text that is written out: the row that was laid, marked as one that a text gave. -/
theorem Try.conv_text (w : World) (cs : Array Value) (zs : List Int) (n : Nat) (hn : zs.length = n) (h : cs.toList = zs.map (Value.int .u8)) (hl : n ≤ 4294967296) :
    ∃ w', (convert 22 22 (.slice (some ⟨w.heap.size, 0, none⟩) n n)).run Try.prog (w.alloc (.cells cs 5)) = .ok (.slice (some ⟨w.heap.size, 0, none⟩) n n) w' ∧ Below w.heap.size w w' ∧ Sl .u8 w' (.slice (some ⟨w.heap.size, 0, none⟩) n n) zs := by
  have hsh : (w.alloc (.cells cs 5)).shape? w.heap.size = some (5, cs.size) := by
    show (match (w.heap.push (.cells cs 5))[w.heap.size]? with | some (.cells c elem _) => some (elem, c.size) | _ => none) = _
    rw [Array.getElem?_push_size]
  refine ⟨(w.alloc (.cells cs 5)).freeze ⟨w.heap.size, cs.size, none⟩ 1, ?_, (below_alloc _ _).trans (below_freeze _ _ _ (Nat.le_refl _)), ?_⟩
  · simp [convert, run_underlying Try.underlying22, run_underlying Try.underlying5, markStringish, hsh]
  · obtain ⟨a, cap, hv, h1, h2, h3, h4⟩ := Sl.lit (k := .u8) (e := 5) (w := w) zs hn h hl
    exact ⟨a, cap, hv, h1, h2, h3, fun x hx i hi => by rw [cell_freeze]; exact h4 x hx i hi⟩

theorem ex_sum : C.sum [49, 50, 51, 52, 53, 54, 55, 56, 57] = 3808858755 := by decide +kernel
theorem ex_len : (F.wrap 1 []).length = 7 := by decide +kernel
theorem ex_0 : (F.wrap 1 []).getD 0 0 = 70 := by decide +kernel
theorem ex_1 : (F.wrap 1 []).getD 1 0 = 1 := by decide +kernel
theorem ex_2 : (F.wrap 1 []).getD 2 0 = 0 := by decide +kernel
theorem ex_open : F.opened (F.wrap 7 [5, 6]) 7 = ([5, 6], 0) := by
  rw [F.wrap_in (by decide)]
  exact F.opened_frame (by decide)

set_option maxHeartbeats 1000000 in
theorem awake2_any (w : World) : Calls Try.prog 9 #[] w fun e w' => e = .returned (.bool true) ∧ Below w.heap.size w w' := by
  go_enter Try.func9, Try.ntmps9
  go_wp2_with fail
  refine (wrap_b 1 _ [] _ (Sl.nil _ _) (byt_of rfl) (by omega) _ rfl).mono ?_
  rintro e w1 ⟨v1, rfl, S1, B1⟩
  obtain ⟨a1, c1, e1, l1, m1, n1, o1⟩ := S1.open
  rw [ex_len] at e1 l1 o1
  obtain ⟨b1, f1, rfl, -, -⟩ := o1 (by omega)
  subst e1
  clear o1 n1
  go_wp2_with fail
  refine (wrap_b 7 _ [5, 6] _ (Sl.lit (n := 2) [5, 6] rfl rfl (by omega)) (byt_of rfl) (by omega) _ rfl).mono ?_
  rintro e w2 ⟨v2, rfl, T2, hb2⟩
  have B2 := below_trans' (below_all B1 _) hb2
  have S2 := (S1.below (below_alloc _ _)).below hb2
  clear S1 B1 hb2
  go_wp2_with fail
  refine (open_b _ _ 7 _ T2 (by rw [F.wrap_in (by decide)]; exact F.frame_byt (by omega) (byt_of rfl) (by decide)) _ _ ex_open).mono ?_
  rintro e w3 ⟨v3, rfl, T3, hb3⟩
  have B3 := below_trans' B2 hb3
  have S3 := S2.below hb3
  clear S2 B2 T2 hb3
  obtain ⟨wf, hconv, hbf, SF⟩ := Try.conv_text w3 #[.int .u8 49, .int .u8 50, .int .u8 51, .int .u8 52, .int .u8 53, .int .u8 54, .int .u8 55, .int .u8 56, .int .u8 57] [49, 50, 51, 52, 53, 54, 55, 56, 57] 9 rfl rfl (by omega)
  go_wp2_with fail
  refine (sum_any _ _ _ SF (byt_of rfl)).mono ?_
  rw [ex_sum]
  rintro e w4 ⟨rfl, hb4⟩
  have B4 := below_trans' (below_trans' B3 hbf) hb4
  have S4 := (S3.below hbf).below hb4
  have T4 := (T3.below hbf).below hb4
  clear S3 B3 T3 hb4 hconv hbf SF
  have k0 : w4.cell? ⟨b1, f1, none⟩ = some (.int .u8 70) := by have := S4.at 0 (by omega); rwa [ex_0] at this
  have k1 : w4.cell? ⟨b1, f1 + 1, none⟩ = some (.int .u8 1) := by have := S4.at 1 (by omega); rwa [ex_1] at this
  have k2 : w4.cell? ⟨b1, f1 + 2, none⟩ = some (.int .u8 0) := by have := S4.at 2 (by omega); rwa [ex_2] at this
  go_wp2_with fail
  refine (bytes_b _ _ [5, 6] [5, 6] _ (T4.below (below_alloc _ _)) (Sl.lit (n := 2) [5, 6] rfl rfl (by omega)) true (by decide)).mono ?_
  rintro e w5 ⟨rfl, hb5⟩
  have B5 := below_trans' (below_all B4 _) hb5
  clear k0 k1 k2 S4 T4 B4 hb5
  go_wp2
  go_ret
  exact ⟨rfl, B5⟩
end Go.Proofs.Ytfffjolodilhoaa
