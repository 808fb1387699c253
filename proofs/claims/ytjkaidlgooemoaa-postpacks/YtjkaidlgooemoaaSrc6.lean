/-
  The contracts of what is read of bytes: number, rising, done, piece.
-/
import Derived.Test.YtjkaidlgooemoaaAppK6
import Derived.Test.YtjkaidlgooemoaaCut6
import Derived.Test.YtjkaidlgooemoaaPlainPack6
import Derived.Test.YtjkaidlgooemoaaRead
import Derived.Deep.RegionHeld3
namespace Go.Proofs.Ytjkaidlgooemoaa
open Go.RowKit

theorem box_set {w : World} {g : Nat} {cs : Array Value} {T : TypeId} (h : w.heap[g]? = some (.cells cs T (0, 0))) (j : Nat) (u : Value) : (w.setCell ⟨g, j, none⟩ u).heap[g]? = some (.cells (cs.setIfInBounds j u) T (0, 0)) := by
  simp [World.setCell, Array.getElem?_modify, h]

theorem box_frozen {w : World} {g : Nat} {cs : Array Value} {T : TypeId} (h : w.heap[g]? = some (.cells cs T (0, 0))) (j : Nat) : w.frozen? ⟨g, j, none⟩ = false := by simp [World.frozen?, h]

theorem grown_drewN (w : World) (n : Nat) (row : Option Nat) : w.grownBy (w.drewN n) row := grown_below (below_dr (Below.refl _ _) n) row

theorem get_q (v : Value) (l : List Int) (x : Int) (w : World) (h : Sl .u8 w v l) (hb : V.Byt l) (a b c : Int) (hr : V.get l x = (a, b, c)) :
    Calls Try.prog 58 #[v, .int .i64 x] w fun e w' => e = .returned (.tuple #[.int .i64 a, .int .i64 b, .int .i64 c]) ∧ w' = w :=
  (get_any v l x w h hb).mono fun e w' ⟨h1, h2⟩ => ⟨by rw [h1, hr], h2⟩

/-- What number answers, and leaves. -/
def NumEnd (g : Nat) (cs : Array Value) (T : TypeId) (p : Nat) (w : World) (r : Option (Int × Nat)) (e : Ending) (w' : World) : Prop :=
  match r with
  | some (n, k) => e = .returned (.tuple #[.int .i64 n, .bool true]) ∧ w'.heap[g]? = some (.cells (cs.setIfInBounds 1 (.int .i64 ((p + k : Nat) : Int))) T (0, 0)) ∧ w.grownBy w' (some g)
  | none => e = .returned (.tuple #[.int .i64 0, .bool false]) ∧ w'.heap[g]? = some (.cells cs T (0, 0)) ∧ w.grownBy w' (some g)

set_option maxHeartbeats 1000000 in
theorem number_any (g : Nat) (cs : Array Value) (T : TypeId) (v : Value) (l : List Int) (p : Nat) (w : World) (hb : w.heap[g]? = some (.cells cs T (0, 0))) (h0 : cs[0]? = some v) (h1 : cs[1]? = some (.int .i64 (p : Int)))
    (hs : Sl .u8 w v l) (hbt : V.Byt l) (hp : p ≤ l.length) (r : Option (Int × Nat)) (hr : V.getH 5 (l.drop p) = r) :
    Calls Try.prog 44 #[.pointer (some ⟨g, 0, none⟩)] w fun e w' => NumEnd g cs T p w r e w' := by
  have q0 := box_cell hb h0
  have q1 := box_cell hb h1
  have q2 := box_frozen hb 1
  obtain ⟨a, cap, hv, -⟩ := id hs
  subst hv
  have HB := hide hb
  clear hb h0 h1
  cases r with
  | none =>
    have HG := hide (fun w (S : Sl .u8 w (.slice a l.length cap) l) => get_q _ l (p : Int) w S hbt 0 0 5 (get_none hp hr))
    clear hr
    go_enter Try.func44, Try.ntmps44
    go_wp2
    go_quiet ((go_at_call 58; exact Calls.quiet_of_same (unhide HG _ (hs.drewN _))))
    go_wp2
    exact bodyPost_ret (v := .tuple #[.int .i64 0, .bool false]) (by simp [results, Try.results44, go_sem]) rfl ⟨rfl, unhide HB, grown_drewN _ _ _⟩
  | some nk =>
    obtain ⟨n, k⟩ := nk
    have HG := hide (fun w (S : Sl .u8 w (.slice a l.length cap) l) => get_q _ l (p : Int) w S hbt n ((p : Int) + k) 0 (get_some hp hr))
    clear hr
    go_enter Try.func44, Try.ntmps44
    go_wp2
    go_quiet ((go_at_call 58; exact Calls.quiet_of_same (unhide HG _ (hs.drewN _))))
    go_wp2
    exact bodyPost_ret (v := .tuple #[.int .i64 n, .bool true]) (by simp [results, Try.results44, go_sem]) rfl ⟨rfl, by rw [show ((p + k : Nat) : Int) = (p : Int) + k by omega]; exact box_set (unhide HB) _ _, (grown_drewN _ _ _).trans (grown_set _ ⟨g, 1, none⟩ _)⟩

/-- What rising answers, and leaves. -/
def RisEnd (g : Nat) (cs : Array Value) (T : TypeId) (w : World) (r : Option (List Int × Nat)) (e : Ending) (w' : World) : Prop :=
  match r with
  | some (xs, q) => ∃ v', e = .returned (.tuple #[v', .bool true]) ∧ w'.heap[g]? = some (.cells (cs.setIfInBounds 1 (.int .i64 (q : Int))) T (0, 0)) ∧ Pa w.heap.size w' v' xs ∧ w.grownBy w' (some g)
  | none => e = .returned (.tuple #[.slice none 0 0, .bool false]) ∧ w'.heap[g]? = some (.cells cs T (0, 0)) ∧ w.grownBy w' (some g)

set_option maxHeartbeats 2000000 in
theorem rising_src (g : Nat) (cs : Array Value) (T : TypeId) (v : Value) (l : List Int) (p : Nat) (w : World) (hb : w.heap[g]? = some (.cells cs T (0, 0))) (h0 : cs[0]? = some v) (h1 : cs[1]? = some (.int .i64 (p : Int)))
    (hs : Sl .u8 w v l) (hbt : V.Byt l) (hp : p ≤ l.length) (r : Option (List Int × Nat)) (hr : V.readP l p = r) :
    Calls Try.prog 70 #[.pointer (some ⟨g, 0, none⟩)] w fun e w' => RisEnd g cs T w r e w' := by
  have q0 := box_cell hb h0
  have q1 := box_cell hb h1
  obtain ⟨a, cap, hv, -⟩ := id hs
  subst hv
  have HB := hide hb
  have hgw := (Array.getElem?_eq_some_iff.1 hb).1
  clear hb h0 h1
  cases r with
  | none =>
    have HG := hide (read_any (.slice a l.length cap) l (p : Int) w.drew hs hbt)
    have HR := hide (read_none hp hr)
    clear hr
    go_enter Try.func70, Try.ntmps70
    go_wp2
    go_region_held3 (fun w' => w'.cell? ⟨g, 0, none⟩ = some (.slice a l.length cap) ∧ w'.cell? ⟨g, 1, none⟩ = some (.int .i64 (p : Int)))
      (first
        | go_keep
        | (go_split_ands; exact ⟨cell_keep (by assumption) B1, cell_keep (by assumption) B1⟩))
      ((go_at_call 71; refine (unhide HG).mono ?_; rintro e w1 ⟨v1, rfl, P1, B1⟩; rw [unhide HR] at P1 ⊢; obtain ⟨xa, xc, hx, -⟩ := id (Sl.owned P1); subst hx))
    go_wp2
    have B2 : Below w.heap.size w w1 := ⟨B1.os, B1.tape, B1.output, B1.size, B1.block⟩
    exact bodyPost_ret (v := .tuple #[.slice none 0 0, .bool false]) (by simp [results, Try.results70, go_sem]) rfl ⟨rfl, box_below (unhide HB) B2, grown_below B2 _⟩
  | some xq =>
    obtain ⟨xs, q⟩ := xq
    have HG := hide (read_any (.slice a l.length cap) l (p : Int) w.drew hs hbt)
    have HR := hide (read_some hp hr)
    clear hr
    go_enter Try.func70, Try.ntmps70
    go_wp2
    go_region_held3 (fun w' => w'.cell? ⟨g, 0, none⟩ = some (.slice a l.length cap) ∧ w'.cell? ⟨g, 1, none⟩ = some (.int .i64 (p : Int)))
      (first
        | go_keep
        | (go_split_ands; exact ⟨cell_keep (by assumption) B1, cell_keep (by assumption) B1⟩))
      ((go_at_call 71; refine (unhide HG).mono ?_; rintro e w1 ⟨v1, rfl, P1, B1⟩; rw [unhide HR] at P1 ⊢; obtain ⟨xa, xc, hx, -⟩ := id (Sl.owned P1); subst hx))
    have B2 : Below w.heap.size w w1 := ⟨B1.os, B1.tape, B1.output, B1.size, B1.block⟩
    have hb1 := box_below (unhide HB) B2
    have t1 := cell_keep q1 B2
    have t2 := box_frozen hb1 1
    have HB1 := hide hb1
    have HP1 := hide P1
    clear hb1 P1 q0 q1
    go_wp2
    refine bodyPost_ret (v := .tuple #[.slice xa xs.length xc, .bool true]) (by simp [results, Try.results70, go_sem]) rfl ⟨_, rfl, box_set (unhide HB1) _ _, ?_, (grown_below B2 _).trans (grown_set _ ⟨g, 1, none⟩ _)⟩
    have P2 : Pa w.heap.size w1 (.slice xa xs.length xc) xs := unhide HP1
    exact own_set P2 (p := ⟨g, 1, none⟩) (fun k hk e => by have := (World.ownsRow.lt P2 k hk).1; simp at e; omega) _

set_option maxHeartbeats 1000000 in
theorem done_any (g : Nat) (cs : Array Value) (T : TypeId) (v : Value) (l : List Int) (p : Nat) (w : World) (hb : w.heap[g]? = some (.cells cs T (0, 0))) (h0 : cs[0]? = some v) (h1 : cs[1]? = some (.int .i64 (p : Int)))
    (hs : Sl .u8 w v l) :
    Calls Try.prog 46 #[.pointer (some ⟨g, 0, none⟩)] w fun e w' => e = .returned (.bool (decide (p = l.length))) ∧ Below w.heap.size w w' := by
  have q0 := box_cell hb h0
  have q1 := box_cell hb h1
  obtain ⟨a, cap, hv, -⟩ := id hs
  subst hv
  clear hb h0 h1
  by_cases he : p = l.length
  · have t1 : ((p : Int) == (l.length : Int)) = true := by rw [beq_iff_eq]; omega
    have HE := hide he
    clear he
    go_enter Try.func46, Try.ntmps46
    go_wp2
    go_quiet (fail)
    go_wp2
    go_ret
    exact ⟨by rw [show decide (p = l.length) = true by simpa using unhide HE]; rfl, below_dr (Below.refl _ _) _⟩
  · have t1 : ((p : Int) == (l.length : Int)) = false := by rw [beq_eq_false_iff_ne]; omega
    have HE := hide he
    clear he
    go_enter Try.func46, Try.ntmps46
    go_wp2
    go_quiet (fail)
    go_wp2
    go_ret
    exact ⟨by rw [show decide (p = l.length) = false by simpa using unhide HE]; rfl, below_dr (Below.refl _ _) _⟩
end Go.Proofs.Ytjkaidlgooemoaa
