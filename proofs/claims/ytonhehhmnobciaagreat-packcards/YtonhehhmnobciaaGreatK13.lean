/-
  Texts put together: Src6, Piece6, Posting6, Own6, PApp6.
-/
import Derived.Test.YtonhehhmnobciaaGreatK07
import Derived.Test.YtonhehhmnobciaaGreatK06
import Derived.Test.YtonhehhmnobciaaGreatK05
import Derived.Deep.RegionHeld3
import Derived.Test.YtonhehhmnobciaaGreatK08
import Derived.Deep.AppendLies
/-
  The contracts of what is read of bytes: number, rising, done, piece.
-/
namespace Go.Proofs.YtonhehhmnobciaaGreat
set_option maxRecDepth 100000
open Go.RowKit

theorem box_set {w : World} {g : Nat} {cs : Array Value} {T : TypeId} (h : w.heap[g]? = some (.cells cs T (0, 0))) (j : Nat) (u : Value) : (w.setCell ⟨g, j, none⟩ u).heap[g]? = some (.cells (cs.setIfInBounds j u) T (0, 0)) := by
  simp [World.setCell, Array.getElem?_modify, h]

theorem box_frozen {w : World} {g : Nat} {cs : Array Value} {T : TypeId} (h : w.heap[g]? = some (.cells cs T (0, 0))) (j : Nat) : w.frozen? ⟨g, j, none⟩ = false := by simp [World.frozen?, h]

theorem grown_drewN (w : World) (n : Nat) (row : Option Nat) : w.grownBy (w.drewN n) row := grown_below (below_dr (Below.refl _ _) n) row

theorem get_q (v : Value) (l : List Int) (x : Int) (w : World) (h : Sl .u8 w v l) (hb : V.Byt l) (a b c : Int) (hr : V.get l x = (a, b, c)) :
    Calls Tryz.prog 55 #[v, .int .i64 x] w fun e w' => e = .returned (.tuple #[.int .i64 a, .int .i64 b, .int .i64 c]) ∧ w' = w :=
  (get_any v l x w h hb).mono fun e w' ⟨h1, h2⟩ => ⟨by rw [h1, hr], h2⟩

/-- What number answers, and leaves. -/
def NumEnd (g : Nat) (cs : Array Value) (T : TypeId) (p : Nat) (w : World) (r : Option (Int × Nat)) (e : Ending) (w' : World) : Prop :=
  match r with
  | some (n, k) => e = .returned (.tuple #[.int .i64 n, .bool true]) ∧ w'.heap[g]? = some (.cells (cs.setIfInBounds 1 (.int .i64 ((p + k : Nat) : Int))) T (0, 0)) ∧ w.grownBy w' (some g)
  | none => e = .returned (.tuple #[.int .i64 0, .bool false]) ∧ w'.heap[g]? = some (.cells cs T (0, 0)) ∧ w.grownBy w' (some g)

set_option maxHeartbeats 1000000 in
theorem number_any (g : Nat) (cs : Array Value) (T : TypeId) (v : Value) (l : List Int) (p : Nat) (w : World) (hb : w.heap[g]? = some (.cells cs T (0, 0))) (h0 : cs[0]? = some v) (h1 : cs[1]? = some (.int .i64 (p : Int)))
    (hs : Sl .u8 w v l) (hbt : V.Byt l) (hp : p ≤ l.length) (r : Option (Int × Nat)) (hr : V.getH 5 (l.drop p) = r) :
    Calls Tryz.prog 110 #[.pointer (some ⟨g, 0, none⟩)] w fun e w' => NumEnd g cs T p w r e w' := by
  have q0 := box_cell hb h0
  have q1 := box_cell hb h1
  have q2 := box_frozen hb 1
  obtain ⟨a, cap, hv, -⟩ := id hs
  subst hv
  have HB := hide hb
  clear hb h0 h1
  cases r with
  | none =>
    have HG := hide (fun w (S : Sl .u8 w (.slice a l.length cap) l) => get_q _ l (p : Int) w S hbt 0 0 5 (get_none hp hr))
    clear hr
    go_enter Tryz.func110, Tryz.ntmps110
    go_wp2
    go_quiet ((go_at_call 55; exact Calls.quiet_of_same (unhide HG _ (hs.drewN _))))
    go_wp2
    exact bodyPost_ret (v := .tuple #[.int .i64 0, .bool false]) (by simp [results, Tryz.results110, go_sem]) rfl ⟨rfl, unhide HB, grown_drewN _ _ _⟩
  | some nk =>
    obtain ⟨n, k⟩ := nk
    have HG := hide (fun w (S : Sl .u8 w (.slice a l.length cap) l) => get_q _ l (p : Int) w S hbt n ((p : Int) + k) 0 (get_some hp hr))
    clear hr
    go_enter Tryz.func110, Tryz.ntmps110
    go_wp2
    go_quiet ((go_at_call 55; exact Calls.quiet_of_same (unhide HG _ (hs.drewN _))))
    go_wp2
    exact bodyPost_ret (v := .tuple #[.int .i64 n, .bool true]) (by simp [results, Tryz.results110, go_sem]) rfl ⟨rfl, by rw [show ((p + k : Nat) : Int) = (p : Int) + k by omega]; exact box_set (unhide HB) _ _, (grown_drewN _ _ _).trans (grown_set _ ⟨g, 1, none⟩ _)⟩

/-- What rising answers, and leaves. -/
def RisEnd (g : Nat) (cs : Array Value) (T : TypeId) (w : World) (r : Option (List Int × Nat)) (e : Ending) (w' : World) : Prop :=
  match r with
  | some (xs, q) => ∃ v', e = .returned (.tuple #[v', .bool true]) ∧ w'.heap[g]? = some (.cells (cs.setIfInBounds 1 (.int .i64 (q : Int))) T (0, 0)) ∧ Pa w.heap.size w' v' xs ∧ w.grownBy w' (some g)
  | none => e = .returned (.tuple #[.slice none 0 0, .bool false]) ∧ w'.heap[g]? = some (.cells cs T (0, 0)) ∧ w.grownBy w' (some g)

set_option maxHeartbeats 2000000 in
theorem rising_src (g : Nat) (cs : Array Value) (T : TypeId) (v : Value) (l : List Int) (p : Nat) (w : World) (hb : w.heap[g]? = some (.cells cs T (0, 0))) (h0 : cs[0]? = some v) (h1 : cs[1]? = some (.int .i64 (p : Int)))
    (hs : Sl .u8 w v l) (hbt : V.Byt l) (hp : p ≤ l.length) (r : Option (List Int × Nat)) (hr : V.readP l p = r) :
    Calls Tryz.prog 121 #[.pointer (some ⟨g, 0, none⟩)] w fun e w' => RisEnd g cs T w r e w' := by
  have q0 := box_cell hb h0
  have q1 := box_cell hb h1
  obtain ⟨a, cap, hv, -⟩ := id hs
  subst hv
  have HB := hide hb
  have hgw := (Array.getElem?_eq_some_iff.1 hb).1
  clear hb h0 h1
  cases r with
  | none =>
    have HG := hide (read_any (.slice a l.length cap) l (p : Int) w.drew hs hbt)
    have HR := hide (read_none hp hr)
    clear hr
    go_enter Tryz.func121, Tryz.ntmps121
    go_wp2
    go_region_held3 (fun w' => w'.cell? ⟨g, 0, none⟩ = some (.slice a l.length cap) ∧ w'.cell? ⟨g, 1, none⟩ = some (.int .i64 (p : Int)))
      (first
        | go_keep
        | (go_split_ands; exact ⟨cell_keep (by assumption) B1, cell_keep (by assumption) B1⟩))
      ((go_at_call 122; refine (unhide HG).mono ?_; rintro e w1 ⟨v1, rfl, P1, B1⟩; rw [unhide HR] at P1 ⊢; obtain ⟨xa, xc, hx, -⟩ := id (Sl.owned P1); subst hx))
    go_wp2
    have B2 : Below w.heap.size w w1 := ⟨B1.os, B1.tape, B1.output, B1.size, B1.block⟩
    exact bodyPost_ret (v := .tuple #[.slice none 0 0, .bool false]) (by simp [results, Tryz.results121, go_sem]) rfl ⟨rfl, box_below (unhide HB) B2, grown_below B2 _⟩
  | some xq =>
    obtain ⟨xs, q⟩ := xq
    have HG := hide (read_any (.slice a l.length cap) l (p : Int) w.drew hs hbt)
    have HR := hide (read_some hp hr)
    clear hr
    go_enter Tryz.func121, Tryz.ntmps121
    go_wp2
    go_region_held3 (fun w' => w'.cell? ⟨g, 0, none⟩ = some (.slice a l.length cap) ∧ w'.cell? ⟨g, 1, none⟩ = some (.int .i64 (p : Int)))
      (first
        | go_keep
        | (go_split_ands; exact ⟨cell_keep (by assumption) B1, cell_keep (by assumption) B1⟩))
      ((go_at_call 122; refine (unhide HG).mono ?_; rintro e w1 ⟨v1, rfl, P1, B1⟩; rw [unhide HR] at P1 ⊢; obtain ⟨xa, xc, hx, -⟩ := id (Sl.owned P1); subst hx))
    have B2 : Below w.heap.size w w1 := ⟨B1.os, B1.tape, B1.output, B1.size, B1.block⟩
    have hb1 := box_below (unhide HB) B2
    have t1 := cell_keep q1 B2
    have t2 := box_frozen hb1 1
    have HB1 := hide hb1
    have HP1 := hide P1
    clear hb1 P1 q0 q1
    go_wp2
    refine bodyPost_ret (v := .tuple #[.slice xa xs.length xc, .bool true]) (by simp [results, Tryz.results121, go_sem]) rfl ⟨_, rfl, box_set (unhide HB1) _ _, ?_, (grown_below B2 _).trans (grown_set _ ⟨g, 1, none⟩ _)⟩
    have P2 : Pa w.heap.size w1 (.slice xa xs.length xc) xs := unhide HP1
    exact own_set P2 (p := ⟨g, 1, none⟩) (fun k hk e => by have := (World.ownsRow.lt P2 k hk).1; simp at e; omega) _

set_option maxHeartbeats 1000000 in
theorem done_any (g : Nat) (cs : Array Value) (T : TypeId) (v : Value) (l : List Int) (p : Nat) (w : World) (hb : w.heap[g]? = some (.cells cs T (0, 0))) (h0 : cs[0]? = some v) (h1 : cs[1]? = some (.int .i64 (p : Int)))
    (hs : Sl .u8 w v l) :
    Calls Tryz.prog 112 #[.pointer (some ⟨g, 0, none⟩)] w fun e w' => e = .returned (.bool (decide (p = l.length))) ∧ Below w.heap.size w w' := by
  have q0 := box_cell hb h0
  have q1 := box_cell hb h1
  obtain ⟨a, cap, hv, -⟩ := id hs
  subst hv
  clear hb h0 h1
  by_cases he : p = l.length
  · have t1 : ((p : Int) == (l.length : Int)) = true := by rw [beq_iff_eq]; omega
    have HE := hide he
    clear he
    go_enter Tryz.func112, Tryz.ntmps112
    go_wp2
    go_quiet (fail)
    go_wp2
    go_ret
    exact ⟨by rw [show decide (p = l.length) = true by simpa using unhide HE]; rfl, below_dr (Below.refl _ _) _⟩
  · have t1 : ((p : Int) == (l.length : Int)) = false := by rw [beq_eq_false_iff_ne]; omega
    have HE := hide he
    clear he
    go_enter Tryz.func112, Tryz.ntmps112
    go_wp2
    go_quiet (fail)
    go_wp2
    go_ret
    exact ⟨by rw [show decide (p = l.length) = false by simpa using unhide HE]; rfl, below_dr (Below.refl _ _) _⟩
end Go.Proofs.YtonhehhmnobciaaGreat

/-
  The contract of piece: the next n bytes, as a source of their own.
-/
namespace Go.Proofs.YtonhehhmnobciaaGreat
set_option maxRecDepth 100000
open Go.RowKit

theorem Sl.grown {k : IntKind} {w w' : World} {v : Value} {l : List Int} {g : Nat} (h : Sl k w v l) (hg : w.grownBy w' (some g)) (hv : ∀ a n c, v = .slice (some a) n c → 0 < n → a.block ≠ g) : Sl k w' v l := by
  obtain ⟨a, cap, hv', hl, hm, hn, hc⟩ := h
  refine ⟨a, cap, hv', hl, hm, hn, fun x hx i hi => ?_⟩
  have h0 := hc x hx i hi
  have hb : (x.add i).block = x.block := by
    unfold Addr.add
    split <;> rfl
  exact hg.cell h0 (by rw [hb]; intro e; exact hv x _ _ (by rw [hv', hx]) (by omega) (Option.some.inj e))

theorem Sl.blk {k : IntKind} {w : World} {v : Value} {l : List Int} (h : Sl k w v l) : ∀ a n c, v = .slice (some a) n c → 0 < n → a.block < w.heap.size := by
  intro a n c hv hn
  subst hv
  obtain ⟨a', cap, hv', hl, hm, hna, hc⟩ := h
  simp only [Value.slice.injEq] at hv'
  obtain ⟨rfl, rfl, rfl⟩ := hv'
  have h0 := World.block_lt_of_cell? w _ (hc a rfl 0 hn)
  have hb : (a.add 0).block = a.block := by
    unfold Addr.add
    split <;> rfl
  rwa [hb] at h0

/-- What piece answers, and leaves. -/
def PieEnd (g : Nat) (v : Value) (T : TypeId) (l : List Int) (p n : Nat) (w : World) (e : Ending) (w' : World) : Prop :=
  if p + n ≤ l.length then ∃ sv, e = .returned (.tuple #[.agg #[sv, .int .i64 0], .bool true]) ∧ Sl .u8 w' sv ((l.drop p).take n) ∧ w'.heap[g]? = some (.cells #[v, .int .i64 ((p + n : Nat) : Int)] T (0, 0)) ∧ w.grownBy w' (some g)
  else e = .returned (.tuple #[.agg #[.slice none 0 0, .int .i64 0], .bool false]) ∧ w.grownBy w' (some g)

set_option maxHeartbeats 2000000 in
theorem piece_any (g : Nat) (T : TypeId) (v : Value) (l : List Int) (p n : Nat) (x : Int) (hx : x = n) (w : World) (hb : w.heap[g]? = some (.cells #[v, .int .i64 (p : Int)] T (0, 0)))
    (hs : Sl .u8 w v l) (hp : p ≤ l.length) (hl : l.length ≤ 1000000) (hvg : ∀ a n c, v = .slice (some a) n c → 0 < n → a.block ≠ g) :
    Calls Tryz.prog 117 #[.pointer (some ⟨g, 0, none⟩), .int .i64 x] w fun e w' => PieEnd g v T l p n w e w' := by
  have q0 : w.cell? ⟨g, 0, none⟩ = some v := box_cell hb rfl
  have q1 : w.cell? ⟨g, 1, none⟩ = some (.int .i64 (p : Int)) := box_cell hb rfl
  have q2 := box_frozen hb 1
  have hgw := (Array.getElem?_eq_some_iff.1 hb).1
  obtain ⟨a, cap, hv, hlc, -⟩ := id hs
  subst hv
  have HB := hide hb
  clear hb
  by_cases hn : p + n ≤ l.length
  · have t1 : ¬ ((l.length : Int) - (p : Int) < x) := by omega
    have t2 : x ≤ (l.length : Int) - (p : Int) := by omega
    have hbx : 0 ≤ x ∧ x ≤ 1000000 := by omega
    have S1 : ∀ w', Sl .u8 w' (.slice a l.length cap) l → Sl .u8 w' (sliced a p (p + n) cap 1) ((l.drop p).take n) := fun w' h => by
      have := h.cut p (p + n) (by omega) hn
      rwa [show p + n - p = n by omega] at this
    have R1 : ∀ w', (Instr.slice 33 (.slice a l.length cap) (some (.int .i64 (p : Int))) (some (.int .i64 ((p : Int) + x))) none).run Tryz.prog w' = .ok (sliced a p (p + n) cap 1) w' := fun w' => by
      rw [show (p : Int) + x = ((p + n : Nat) : Int) by omega]
      exact run_by_within a l.length cap p (p + n) (by omega) (by omega) w'
    obtain ⟨sa, sn, sc, hsv⟩ : ∃ sa sn sc, sliced a p (p + n) cap 1 = .slice sa sn sc := ⟨_, _, _, rfl⟩
    rw [hsv] at R1 S1
    have HS1 := hide S1
    have HX := hide hx
    clear hsv S1 hx
    go_enter Tryz.func117, Tryz.ntmps117
    go_wp2
    go_quiet (fail)
    go_wp2
    obtain ⟨W1, hW1⟩ : ∃ W1, W1 = ((w.alloc (.cells #[.slice none 0 0, .int .i64 0] 152)).drewN nq).setCell ⟨g, 1, none⟩ (.int .i64 ((p : Int) + x)) := ⟨_, rfl⟩
    have b0 : Below w.heap.size w ((w.alloc (.cells #[.slice none 0 0, .int .i64 0] 152)).drewN nq) := below_dr (below_alloc _ _) nq
    have bg : W1.heap[g]? = some (.cells #[.slice a l.length cap, .int .i64 ((p : Int) + x)] T (0, 0)) := by
      rw [hW1]
      exact box_set (box_below (unhide HB) b0) 1 _
    have br : W1.heap[w.heap.size]? = some (.cells #[.slice none 0 0, .int .i64 0] 152 (0, 0)) := by
      rw [hW1, Below.heap_setCell _ _ _ _ (by show w.heap.size ≠ g; omega)]
      exact heap_alloc_new w _
    have gr : w.grownBy W1 (some g) := by
      rw [hW1]
      exact (grown_below b0 _).trans (grown_set _ ⟨g, 1, none⟩ _)
    have x0 : W1.cell? ⟨g, 0, none⟩ = some (.slice a l.length cap) := box_cell bg rfl
    have x1 : W1.cell? ⟨g, 1, none⟩ = some (.int .i64 ((p : Int) + x)) := box_cell bg rfl
    have y0 : W1.cell? ⟨w.heap.size, 0, none⟩ = some (.slice none 0 0) := box_cell br rfl
    have y1 : W1.cell? ⟨w.heap.size, 1, none⟩ = some (.int .i64 0) := box_cell br rfl
    have z0 := box_frozen br 0
    have z1 := box_frozen br 1
    have HBG := hide bg
    have HBR := hide br
    rw [← hW1]
    have hne : ¬ (g = w.heap.size) := by omega
    have hne2 : ¬ (w.heap.size = g) := by omega
    clear hW1 b0 bg br q0 q1 q2
    go_region
    go_wp2
    have ge : w.grownBy (((W1.setCell ⟨w.heap.size, 0, none⟩ (.slice sa sn sc)).setCell ⟨w.heap.size, 1, none⟩ (.int .i64 0)).drew) (some g) := by
      have b1 : Below w.heap.size W1 (((W1.setCell ⟨w.heap.size, 0, none⟩ (.slice sa sn sc)).setCell ⟨w.heap.size, 1, none⟩ (.int .i64 0)).drew) := (((Below.refl w.heap.size W1).setCell (p := ⟨w.heap.size, 0, none⟩) (Nat.le_refl w.heap.size) _).setCell (p := ⟨w.heap.size, 1, none⟩) (Nat.le_refl w.heap.size) _).drew
      exact ⟨b1.os.trans gr.os, b1.tape.trans gr.tape, b1.output.trans gr.output, Nat.le_trans gr.size b1.size, fun k hk hk2 => (b1.block k hk).trans (gr.block k hk hk2)⟩
    refine bodyPost_ret (v := .tuple #[.agg #[.slice sa sn sc, .int .i64 0], .bool true]) (by simp [results, Tryz.results117, go_sem, y0, y1]) rfl ?_
    unfold PieEnd
    rw [if_pos hn]
    refine ⟨_, rfl, unhide HS1 _ (hs.grown ge hvg), ?_, ge⟩
    have h1 : (((W1.setCell ⟨w.heap.size, 0, none⟩ (.slice sa sn sc)).setCell ⟨w.heap.size, 1, none⟩ (.int .i64 0)).drew).heap[g]? = W1.heap[g]? := by
      show ((W1.setCell ⟨w.heap.size, 0, none⟩ (.slice sa sn sc)).setCell ⟨w.heap.size, 1, none⟩ (.int .i64 0)).heap[g]? = _
      rw [Below.heap_setCell _ _ _ _ hne, Below.heap_setCell _ _ _ _ hne]
    rw [h1, unhide HBG, unhide HX]
    rfl
  · have t1 : (l.length : Int) - (p : Int) < x := by omega
    go_enter Tryz.func117, Tryz.ntmps117
    go_wp2
    go_quiet (fail)
    go_wp2
    refine bodyPost_ret (v := .tuple #[.agg #[.slice none 0 0, .int .i64 0], .bool false]) (by simp [results, Tryz.results117, go_sem]) rfl ?_
    unfold PieEnd
    rw [if_neg hn]
    exact ⟨rfl, grown_below (((below_dr (below_alloc _ _) _).setCell (p := ⟨w.heap.size, 0, none⟩) (Nat.le_refl w.heap.size) _).setCell (p := ⟨w.heap.size, 1, none⟩) (Nat.le_refl w.heap.size) _) _⟩
end Go.Proofs.YtonhehhmnobciaaGreat

/-
  The contract of posting: the next posting of a block.
-/
namespace Go.Proofs.YtonhehhmnobciaaGreat
set_option maxRecDepth 100000
open Go.RowKit

/-- What the next posting is, by what is read: its step, its places, where it ends. -/
def Q.post1 (q : List Int) (p : Nat) : Option (Int × List Int × Nat) :=
  match V.getH 5 (q.drop p) with
  | none => none
  | some (s, k) =>
    match V.readP q (p + k) with
    | none => none
    | some (xs, p') => some (s, xs, p')

/-- What posting answers, and leaves. -/
def PosEnd (g : Nat) (v : Value) (m : Int) (w : World) (r : Option (Int × List Int × Nat)) (e : Ending) (w' : World) : Prop :=
  match r with
  | some (s, xs, p') => ∃ v', e = .returned (.tuple #[.agg #[.int .i64 (m + (s + 1)), v'], .bool true]) ∧ w'.heap[g]? = some (.cells #[v, .int .i64 (p' : Int), .int .i64 (m + (s + 1))] 166 (0, 0)) ∧ Pa w.heap.size w' v' xs ∧ w.grownBy w' (some g)
  | none => e = .returned (.tuple #[.agg #[.int .i64 0, .slice none 0 0], .bool false]) ∧ w.grownBy w' (some g)

theorem grown_two {w w1 : World} {g : Nat} (hg : w.grownBy w1 (some g)) (u1 u2 : Value) : w.grownBy ((w1.setCell ⟨w.heap.size, 0, none⟩ u1).setCell ⟨w.heap.size, 1, none⟩ u2) (some g) := by
  have b1 : Below w.heap.size w1 ((w1.setCell ⟨w.heap.size, 0, none⟩ u1).setCell ⟨w.heap.size, 1, none⟩ u2) := ((Below.refl w.heap.size w1).setCell (p := ⟨w.heap.size, 0, none⟩) (Nat.le_refl w.heap.size) _).setCell (p := ⟨w.heap.size, 1, none⟩) (Nat.le_refl w.heap.size) _
  exact ⟨b1.os.trans hg.os, b1.tape.trans hg.tape, b1.output.trans hg.output, Nat.le_trans hg.size b1.size, fun k hk hk2 => (b1.block k hk).trans (hg.block k hk hk2)⟩

set_option maxHeartbeats 2000000 in
theorem posting_any (g : Nat) (v : Value) (q : List Int) (p : Nat) (m : Int) (w : World) (hb : w.heap[g]? = some (.cells #[v, .int .i64 (p : Int), .int .i64 m] 166 (0, 0)))
    (hs : Sl .u8 w v q) (hbt : V.Byt q) (hp : p ≤ q.length) (hm : -1 ≤ m ∧ m ≤ 1000000000000000) (hvg : ∀ a n c, v = .slice (some a) n c → 0 < n → a.block ≠ g) :
    Calls Tryz.prog 120 #[.pointer (some ⟨g, 0, none⟩)] w fun e w' => PosEnd g v m w (Q.post1 q p) e w' := by
  have hgw := (Array.getElem?_eq_some_iff.1 hb).1
  obtain ⟨W0, hW0⟩ : ∃ W0, W0 = w.alloc (.cells #[.int .i64 0, .slice none 0 0] 95) := ⟨_, rfl⟩
  have b0 : Below w.heap.size w W0 := by rw [hW0]; exact below_alloc _ _
  have hb0 := box_below hb b0
  have hr0 : W0.heap[w.heap.size]? = some (.cells #[.int .i64 0, .slice none 0 0] 95 (0, 0)) := by rw [hW0]; exact heap_alloc_new w _
  have hs0 := hs.below b0
  have hne : some w.heap.size ≠ some g := by simp; omega
  have HW0 := hide hW0
  clear hW0
  cases h1 : V.getH 5 (q.drop p) with
  | none =>
    have hp1 : Q.post1 q p = none := by rw [Q.post1, h1]
    rw [hp1]
    have HN := hide (number_any g _ _ v q p W0 hb0 rfl rfl hs0 hbt hp none h1)
    clear h1 hp1
    go_enter Tryz.func120, Tryz.ntmps120
    go_wp2_with fail
    rw [← unhide HW0]
    refine (unhide HN).mono ?_
    rintro e w1 ⟨rfl, hb1, G1⟩
    have br := box_grown hr0 G1 hne
    have y0 : w1.cell? ⟨w.heap.size, 0, none⟩ = some (.int .i64 0) := box_cell br rfl
    have y1 : w1.cell? ⟨w.heap.size, 1, none⟩ = some (.slice none 0 0) := box_cell br rfl
    have z0 := box_frozen br 0
    have z1 := box_frozen br 1
    have GG := (grown_below b0 (some g)).trans G1
    clear hb0 hr0 br hb1
    go_wp2
    exact bodyPost_ret (v := .tuple #[.agg #[.int .i64 0, .slice none 0 0], .bool false]) (by simp [results, Tryz.results120, go_sem, y0, y1]) rfl ⟨rfl, grown_two GG _ _⟩
  | some sk =>
    obtain ⟨s, k⟩ := sk
    obtain ⟨a1, a2, a3, a4, a5⟩ := V.put_getH (hbt.drop p) h1
    unfold V.Top at a3
    simp only [List.length_drop] at a5
    have HN := hide (number_any g _ _ v q p W0 hb0 rfl rfl hs0 hbt hp (some (s, k)) h1)
    cases h2 : V.readP q (p + k) with
    | none =>
      have hp1 : Q.post1 q p = none := by rw [Q.post1, h1]; simp only []; rw [h2]
      rw [hp1]
      have HR := hide h2
      clear h1 h2 hp1 a1 a4
      go_enter Tryz.func120, Tryz.ntmps120
      go_wp2_with fail
      rw [← unhide HW0]
      refine (unhide HN).mono ?_
      rintro e w1 ⟨rfl, hb1, G1⟩
      have br := box_grown hr0 G1 hne
      have hs1 := hs0.grown G1 hvg
      have HRR := hide (rising_src g _ _ v q (p + k) w1 hb1 rfl rfl hs1 hbt (by omega) none (unhide HR))
      clear hb0 hr0 hb1
      go_wp2_with fail
      refine (unhide HRR).mono ?_
      rintro e w2 ⟨rfl, hb2, G2⟩
      have br2 := box_grown br G2 hne
      have y0 : w2.cell? ⟨w.heap.size, 0, none⟩ = some (.int .i64 0) := box_cell br2 rfl
      have y1 : w2.cell? ⟨w.heap.size, 1, none⟩ = some (.slice none 0 0) := box_cell br2 rfl
      have z0 := box_frozen br2 0
      have z1 := box_frozen br2 1
      have GG := ((grown_below b0 (some g)).trans G1).trans G2
      clear br br2 hb2
      go_wp2
      exact bodyPost_ret (v := .tuple #[.agg #[.int .i64 0, .slice none 0 0], .bool false]) (by simp [results, Tryz.results120, go_sem, y0, y1]) rfl ⟨rfl, grown_two GG _ _⟩
    | some xq =>
      obtain ⟨xs, p'⟩ := xq
      have hp1 : Q.post1 q p = some (s, xs, p') := by rw [Q.post1, h1]; simp only []; rw [h2]
      rw [hp1]
      have HR := hide h2
      clear h1 h2 hp1 a1 a4
      go_enter Tryz.func120, Tryz.ntmps120
      go_wp2_with fail
      rw [← unhide HW0]
      refine (unhide HN).mono ?_
      rintro e w1 ⟨rfl, hb1, G1⟩
      have br := box_grown hr0 G1 hne
      have hs1 := hs0.grown G1 hvg
      have HRR := hide (rising_src g _ _ v q (p + k) w1 hb1 rfl rfl hs1 hbt (by omega) (some (xs, p')) (unhide HR))
      clear hb0 hr0 hb1
      go_wp2_with fail
      refine (unhide HRR).mono ?_
      rintro e w2 ⟨v2, rfl, hb2, P2, G2⟩
      have br2 := box_grown br G2 hne
      have hb2' : w2.heap[g]? = some (.cells #[v, .int .i64 (p' : Int), .int .i64 m] 166 (0, 0)) := by simpa using hb2
      have x2 : w2.cell? ⟨g, 2, none⟩ = some (.int .i64 m) := box_cell hb2' rfl
      have xf := box_frozen hb2' 2
      have y0 : w2.cell? ⟨w.heap.size, 0, none⟩ = some (.int .i64 0) := box_cell br2 rfl
      have y1 : w2.cell? ⟨w.heap.size, 1, none⟩ = some (.slice none 0 0) := box_cell br2 rfl
      have z0 := box_frozen br2 0
      have z1 := box_frozen br2 1
      have GG := ((grown_below b0 (some g)).trans G1).trans G2
      obtain ⟨xa, xc, hx, -⟩ := id (Pa.sl P2)
      subst hx
      have HP2 := hide P2
      have HB2 := hide hb2'
      have hng : ¬ (g = w.heap.size) := by omega
      have hng2 : ¬ (w.heap.size = g) := by omega
      have hz1 : w.heap.size < w1.heap.size := by
        have h1 := G1.size
        rw [unhide HW0] at h1
        simp at h1
        omega
      have HZ1 := hide hz1
      clear br br2 hb2 hb2' P2 hz1
      go_wp2
      refine bodyPost_ret (v := .tuple #[.agg #[.int .i64 (m + (s + 1)), .slice xa xs.length xc], .bool true]) (by simp [results, Tryz.results120, go_sem, y0, y1]) rfl ⟨_, rfl, ?_, ?_, grown_two (GG.trans (grown_set _ ⟨g, 2, none⟩ _)) _ _⟩
      · rw [Below.heap_setCell _ _ _ _ (by exact hng), Below.heap_setCell _ _ _ _ (by exact hng)]
        exact box_set (unhide HB2) 2 _
      · have P3 : Pa w.heap.size w2 (.slice xa xs.length xc) xs := own_mono (unhide HP2) (Nat.le_of_lt (unhide HZ1))
        have kb : ∀ k, (Value.slice xa xs.length xc).ownBlock = some k → w.heap.size < k := fun k hk => Nat.lt_of_lt_of_le (unhide HZ1) (World.ownsRow.lt (unhide HP2) k hk).1
        exact own_set (own_set (own_set P3 (p := ⟨g, 2, none⟩) (fun k hk => by have := kb k hk; show k ≠ g; omega) _) (p := ⟨w.heap.size, 0, none⟩) (fun k hk => by have := kb k hk; show k ≠ w.heap.size; omega) _) (p := ⟨w.heap.size, 1, none⟩) (fun k hk => by have := kb k hk; show k ≠ w.heap.size; omega) _
end Go.Proofs.YtonhehhmnobciaaGreat

/-
  The contract of own: the same postings in new memory, the places of each in a row of their own.
-/
namespace Go.Proofs.YtonhehhmnobciaaGreat
set_option maxRecDepth 100000
open Go.RowKit

/-- Nothing too great for the walks. -/
def Fits (L : List Pt) : Prop := L.length ≤ 100 ∧ ∀ p ∈ L, p.a.length ≤ 1000

/-- The rows of places lie apart from each other. -/
def Ap (cs : List Value) : Prop := ∀ i j u v g, i ≠ j → cs[i * 2 + 1]? = some u → cs[j * 2 + 1]? = some v → u.ownBlock = some g → v.ownBlock ≠ some g

theorem PCp.odd {Q : Value → List Int → Prop} {cs : List Value} {L : List Pt} (h : PCp Q cs L) {i : Nat} {u : Value} (hu : cs[i * 2 + 1]? = some u) : ∃ p, L[i]? = some p ∧ Q u p.a := by
  have hl := h.len
  have hi := (List.getElem?_eq_some_iff.1 hu).1
  have hL : i < L.length := by omega
  obtain ⟨dv, -, h1, h2⟩ := h.at i L[i] (List.getElem?_eq_getElem hL)
  rw [hu] at h1
  simp at h1
  subst h1
  exact ⟨L[i], List.getElem?_eq_getElem hL, h2⟩

theorem Ap.nil : Ap [] := fun i j u v g _ h => by simp at h

theorem Ap.snoc {cs : List Value} {n : Nat} (hl : cs.length = n * 2) (h : Ap cs) {x dv : Value} (hd : ∀ i u g, cs[i * 2 + 1]? = some u → u.ownBlock = some g → dv.ownBlock ≠ some g) : Ap (cs ++ [x, dv]) := by
  intro i j u v g hij hu hv hg
  have hi : i ≤ n := by
    have := (List.getElem?_eq_some_iff.1 hu).1
    simp at this
    omega
  have hj : j ≤ n := by
    have := (List.getElem?_eq_some_iff.1 hv).1
    simp at this
    omega
  have key : ∀ k w, k ≤ n → (cs ++ [x, dv])[k * 2 + 1]? = some w → (k < n ∧ cs[k * 2 + 1]? = some w) ∨ (k = n ∧ w = dv) := by
    intro k w hk hw
    rcases Nat.lt_or_ge k n with h1 | h1
    · left
      rw [List.getElem?_append_left (by omega)] at hw
      exact ⟨h1, hw⟩
    · right
      have e : k = n := by omega
      subst e
      rw [List.getElem?_append_right (by omega), hl, show k * 2 + 1 - k * 2 = 1 by omega] at hw
      simp at hw
      exact ⟨rfl, hw.symm⟩
  rcases key i u hi hu with ⟨i1, hu'⟩ | ⟨rfl, rfl⟩
  · rcases key j v hj hv with ⟨j1, hv'⟩ | ⟨rfl, rfl⟩
    · exact h i j u v g hij hu' hv' hg
    · exact hd i u g hu' hg
  · rcases key j v hj hv with ⟨j1, hv'⟩ | ⟨rfl, rfl⟩
    · intro e
      exact hd j v g hv' e hg
    · exact absurd rfl hij

end Go.Proofs.YtonhehhmnobciaaGreat

/-
  'out = append(out, xs...)' at postings, whose cells are known as a list.
-/
namespace Go.Proofs.YtonhehhmnobciaaGreat
set_option maxRecDepth 100000
open Go.RowKit

/-- The slice value u has, in w, the cells ds of as many postings as M. -/
def Cl (w : World) (u : Value) (ds : List Value) (M : List Pt) : Prop :=
  (∃ cap, u = .slice none 0 cap ∧ M = [] ∧ cap = 0) ∨ ∃ ad cap, u = .slice (some ad) M.length cap ∧ ∀ j y, ds[j]? = some y → w.cell? (ad.add j) = some y

theorem Pl.cl {w : World} {u : Value} {M : List Pt} (h : Pl w u M) : ∃ ds, Cl w u ds M ∧ PC w ds M := by
  obtain ⟨ao, cap, rfl, hl, hm, hn, hc⟩ := h
  cases ao with
  | none =>
    have hcap := hn rfl
    subst hcap
    have hz0 : M = [] := List.eq_nil_of_length_eq_zero (by omega)
    subst hz0
    exact ⟨[], .inl ⟨0, rfl, rfl, rfl⟩, trivial⟩
  | some ad =>
    obtain ⟨ds, hd, hdj⟩ := Pl.cells (w := w) (x := ad) (L := M) 0 fun i f hf => by simpa using hc ad rfl i f hf
    exact ⟨ds, .inr ⟨ad, cap, rfl, fun j y hj => by simpa using hdj j y hj⟩, hd⟩

theorem Cl.below {w w' : World} {u : Value} {ds : List Value} {M : List Pt} (h : Cl w u ds M) (hb : Below w.heap.size w w') : Cl w' u ds M := by
  rcases h with h | ⟨ad, cap, hu, hc⟩
  · exact .inl h
  · refine .inr ⟨ad, cap, hu, fun j y hj => ?_⟩
    have h0 := hc j y hj
    rw [hb.cell (World.block_lt_of_cell? w _ h0)]
    exact h0

theorem Cl.owned {w : World} {B : Nat} {u : Value} {ds : List Value} {M : List Pt} (h : w.ownsRow B 95 2 u M.length ds) : Cl w u ds M := by
  have hcell := fun g hg => h.cells (g := g) hg
  rcases id h.2 with ⟨rfl, h0⟩ | ⟨g, cap, cur, rfl, -⟩
  · exact .inl ⟨0, rfl, List.eq_nil_of_length_eq_zero h0, rfl⟩
  · exact .inr ⟨_, cap, rfl, hcell g rfl⟩

theorem append_posts_c {Q : Value → List Int → Prop} (hq : ∀ v z, Q v z → v.oneCell' = true) {ops : Array Oper} {rest : List Oper} {o : Oper} {a : Act} {Q' : Exit → Act → World → Prop} {wr : World} (hgd : o.guard = none) (s x : Operand)
    (ho : o.op = .call { callee := .builtin .append, args := #[s, x], argTypes := #[55, 55] }) {B : Nat} {pre L : List Pt} {v u : Value} {cs ds : List Value} (hs : a.eval s = v) (hx : a.eval x = u)
    (hu : Cl wr u ds L) (hd : PCp Q ds L) (hc1 : wr.ownsRow B 95 2 v pre.length cs) (hc2 : PCp Q cs pre) (hB : B ≤ wr.heap.size) (hlen : pre.length + L.length ≤ 4294967296)
    (h : ∀ v' w', w'.ownsRow B 95 2 v' (pre ++ L).length (cs ++ ds) → PCp Q (cs ++ ds) (pre ++ L) → wr.grownBy w' v.ownBlock → wpList Tryz.prog ops Q' rest (a.put o.dst v') w') :
    wpList Tryz.prog ops Q' (o :: rest) a wr := by
  obtain ⟨i0, hi, hz0, hz1, hz2⟩ := info_parts Tryz.infoP
  rcases hu with ⟨cap, rfl, rfl, rfl⟩ | ⟨ad, cap, rfl, hc⟩
  · have hds : ds = [] := List.eq_nil_of_length_eq_zero (by have := hd.len; simpa using this)
    subst hds
    refine wpList_append_own_none hgd s x _ ho B 95 i0 2 Tryz.underlying55 hi v pre.length _ hs hc1 hx ?_
    exact h v wr (by simpa using hc1) (by simpa using hc2) ⟨rfl, rfl, rfl, Nat.le_refl _, fun _ _ _ => rfl⟩
  · refine wpList_append_own _ hgd s x _ ho B 95 i0 _ 2 32 Tryz.underlying55 hi hz0 hz1 hz2 rfl (by decide) v pre.length _ hs hc1 ad L.length cap ds hx hd.len hc (PCp.ones hq hd) ?_ ?_ hB ?_
    · unfold maxLen; omega
    · omega
    · intro v' w1 hown' hg _
      exact h v' w1 (by simpa using hown') (hc2.append hd) hg

/-- Places that were read at w1, or stand in a row of one's own. -/
def Qd (w1 w : World) (u : Value) (z : List Int) : Prop := Sl .i64 w1 u z ∨ Pa w1.heap.size w u z
theorem Qd.one {w1 w : World} (v : Value) (z : List Int) (h : Qd w1 w v z) : v.oneCell' = true := by
  rcases h with h | h
  · exact h.oneCell
  · exact Pa.one _ _ h
theorem Qd.sl {w1 w : World} {v : Value} {z : List Int} (h : Qd w1 w v z) (b : Below w1.heap.size w1 w) : Sl .i64 w v z := by
  rcases h with h | h
  · exact h.below b
  · exact Pa.sl h
theorem Qd.grown {w1 w w' : World} {v ov : Value} {z : List Int} {B n : Nat} {cs : List Value} (h : Qd w1 w v z) (o : w.ownsRow B 95 2 ov n cs) (g : w.grownBy w' ov.ownBlock) : Qd w1 w' v z := by
  rcases h with h | h
  · exact .inl h
  · exact .inr (World.ownsRow.kept h g (own_apart h o (by decide)))
theorem Qd.below {w1 w w' : World} {v : Value} {z : List Int} (h : Qd w1 w v z) (b : Below w.heap.size w w') : Qd w1 w' v z := by
  rcases h with h | h
  · exact .inl h
  · exact .inr (own_below h b)
end Go.Proofs.YtonhehhmnobciaaGreat
