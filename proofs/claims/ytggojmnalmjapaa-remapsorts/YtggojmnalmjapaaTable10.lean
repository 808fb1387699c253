/-
  The contracts of within, of the closures that Table, Then, Turn and places hand to each, of Table and Then, and of the document's own Table and Then.
-/
import Derived.Test.YtggojmnalmjapaaEach10
namespace Go.Proofs.Ytggojmnalmjapaa
set_option maxRecDepth 100000
open Go.RowKit Go.Deep

/-- Numbers of the call's own that a function hands back. -/
def MadeN (w : World) (m : List Int) (e : Ending) (w' : World) : Prop :=
  ∃ v', e = .returned v' ∧ w'.ownsRow w.heap.size 3 1 v' m.length (m.map (Value.int .i64)) ∧ Below w.heap.size w w'
abbrev Il (w : World) (v : Value) (l : List Int) : Prop := Gl (Value.int .i64) w v l
theorem Il.sl {w : World} {v : Value} {l : List Int} (h : Il w v l) : Sl .i64 w v l := by
  obtain ⟨a, cap, hv, hl, hm, hn, hc⟩ := h
  refine ⟨a, cap, hv, hl, hm, hn, fun x hx i hi => ?_⟩
  rw [hc x hx i l[i] (List.getElem?_eq_getElem hi)]
  simp [List.getD, hi]
theorem Il.of {w : World} {v : Value} {l : List Int} (h : Sl .i64 w v l) : Il w v l := by
  obtain ⟨a, cap, hv, hl, hm, hn, hc⟩ := h
  refine ⟨a, cap, hv, hl, hm, hn, fun x hx i y hi => ?_⟩
  rw [hc x hx i (List.getElem?_eq_some_iff.1 hi).1]
  simp [List.getD, hi]
theorem cell10 {w w' : World} {p : Addr} {x : Value} {B : Nat} (h : w.cell? p = some x) (hb : Below B w w') (hp : p.block < B) : w'.cell? p = some x := (hb.cell hp).trans h
theorem cellK10 {w w' : World} {p : Addr} {x : Value} (h : w.cell? p = some x) (hb : Below w.heap.size w w') : w'.cell? p = some x := (hb.cell (World.block_lt_of_cell? w _ h)).trans h
theorem froz10 {w w' : World} {p : Addr} {B : Nat} (h : w.frozen? p = false) (hb : Below B w w') (hp : p.block < B) : w'.frozen? p = false := (hb.frozen hp).trans h
theorem grown10_of {w w' : World} (row : Option Nat) (h : Below w.heap.size w w') : w.grownBy w' row := ⟨h.os, h.tape, h.output, h.size, fun k hk _ => h.block k hk⟩

def R.inn (x n : Int) : Bool := decide (0 ≤ x ∧ x < n)
theorem within_any (x n : Int) (w : World) (r : Bool) (hr : R.inn x n = r) : Calls Try.prog 29 #[.int .i64 x, .int .i64 n] w fun e w' => e = .returned (.bool r) ∧ w' = w := by
  unfold R.inn at hr
  by_cases h0 : 0 ≤ x
  · by_cases h1 : x < n
    · obtain rfl : true = r := by rw [← hr]; simp [h0, h1]
      clear hr
      go_enter Try.func29, Try.ntmps29
      go_wp2
      go_ret
      exact ⟨by simp, rfl⟩
    · obtain rfl : false = r := by rw [← hr]; simp [h0, h1]
      clear hr
      go_enter Try.func29, Try.ntmps29
      go_wp2
      go_ret
      exact ⟨by simp; try omega, rfl⟩
  · obtain rfl : false = r := by rw [← hr]; simp [h0]
    clear hr
    go_enter Try.func29, Try.ntmps29
    go_wp2
    go_ret
    exact ⟨by simp, rfl⟩

/-! ### The closures -/

set_option maxHeartbeats 1000000 in
theorem cloT_any (P N i : Nat) (l : List Bool) (v : Value) (m : Int) (w : World) (hP : w.cell? ⟨P, 0, none⟩ = some v) (hN : w.cell? ⟨N, 0, none⟩ = some (.int .i64 m)) (hf : w.frozen? ⟨N, 0, none⟩ = false) (h : Gl .bool w v l) (x : Bool) (hx : l[i]? = some x) (hm0 : 0 ≤ m) (hm : m ≤ 100000) :
    Calls Try.prog 27 #[.int .i64 (i : Int), .pointer (some ⟨P, 0, none⟩), .pointer (some ⟨N, 0, none⟩)] w fun e w' => e = .returned (.int .i64 (if x = true then m else -1)) ∧ w' = (if x = true then w.setCell ⟨N, 0, none⟩ (.int .i64 (m + 1)) else w) := by
  obtain ⟨a, cap, rfl, hl, hmx, hn, ho⟩ := h.open
  have hlt := (List.getElem?_eq_some_iff.1 hx).1
  obtain ⟨b, off, rfl, hb, hc⟩ := ho (by omega)
  have c1 := hc i x hx
  clear hc ho hx h
  cases x with
  | true =>
    simp only [if_true]
    go_enter Try.func27, Try.ntmps27
    go_wp2
    go_ret
    exact ⟨by simp <;> omega, rfl⟩
  | false =>
    simp only [Bool.false_eq_true, if_false]
    go_enter Try.func27, Try.ntmps27
    go_wp2
    go_ret
    exact ⟨rfl, rfl⟩

set_option maxHeartbeats 1000000 in
theorem cloH_any (P Q i : Nat) (t p : List Int) (tv pv : Value) (w : World) (hP : w.cell? ⟨P, 0, none⟩ = some tv) (hQ : w.cell? ⟨Q, 0, none⟩ = some pv) (ht : Il w tv t) (hp : Il w pv p) (x : Int) (hx : t[i]? = some x) :
    Calls Try.prog 28 #[.int .i64 (i : Int), .pointer (some ⟨P, 0, none⟩), .pointer (some ⟨Q, 0, none⟩)] w fun e w' => e = .returned (.int .i64 (R.thn1 p x)) ∧ Below w.heap.size w w' := by
  obtain ⟨a, cap, rfl, hl, hmx, hn, ho⟩ := ht.open
  obtain ⟨a2, cap2, rfl, hl2, hmx2, hn2, ho2⟩ := hp.open
  have hlt := (List.getElem?_eq_some_iff.1 hx).1
  obtain ⟨b, off, rfl, hb, hc⟩ := ho (by omega)
  have c1 := hc i x hx
  clear hc ho hx ht hp
  cases hr : R.inn x p.length with
  | false =>
    have HR : Hid (R.thn1 p x = -1) := by
      show _ = _
      unfold R.thn1
      rw [if_neg (by simpa [R.inn] using hr)]
    have hr' := hide hr
    clear hr ho2
    go_enter Try.func28, Try.ntmps28
    go_wp2
    go_quiet ((go_at_call 29; refine Calls.quiet_of_same (within_any _ _ _ _ (unhide hr'))))
    go_wp2
    go_ret
    exact ⟨by rw [unhide HR]; rfl, below_dr (Below.refl _ _) _⟩
  | true =>
    have hxx : 0 ≤ x ∧ x < (p.length : Int) := by simpa [R.inn] using hr
    obtain ⟨k, rfl⟩ := Int.eq_ofNat_of_zero_le hxx.1
    have hk : k < p.length := by omega
    obtain ⟨b2, off2, rfl, hb2, hc2⟩ := ho2 (by omega)
    have c2 := hc2 k p[k] (List.getElem?_eq_getElem hk)
    have HR : Hid (R.thn1 p (k : Int) = p[k]) := by
      show _ = _
      unfold R.thn1
      rw [if_pos hxx]
      simp [List.getD, hk]
    obtain ⟨y, hy⟩ : ∃ y, p[k] = y := ⟨_, rfl⟩
    rw [hy] at c2 HR
    have hr' := hide hr
    clear hr ho2 hc2 hxx hy
    go_enter Try.func28, Try.ntmps28
    go_wp2
    go_quiet ((go_at_call 29; refine Calls.quiet_of_same (within_any _ _ _ _ (unhide hr'))))
    go_wp2
    go_quiet (fail)
    go_wp2
    go_ret
    exact ⟨by rw [unhide HR]; rfl, below_dr (below_dr (Below.refl _ _) _) _⟩

theorem cloU_any (i : Int) (w : World) : Calls Try.prog 36 #[.int .i64 i] w fun e w' => e = .returned (.int .i64 (-1)) ∧ w' = w := by
  go_enter Try.func36, Try.ntmps36
  go_wp2
  go_ret
  exact ⟨rfl, rfl⟩
theorem cloP_any (i : Int) (w : World) : Calls Try.prog 43 #[.int .i64 i] w fun e w' => e = .returned (.int .i64 i) ∧ w' = w := by
  go_enter Try.func43, Try.ntmps43
  go_wp2
  go_ret
  exact ⟨rfl, rfl⟩
end Go.Proofs.Ytggojmnalmjapaa
