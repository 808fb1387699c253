/-
  The contracts of the laws' few and names; literals.
-/
import Derived.Test.YtggojmnalmjapaaAlike10
import Derived.Test.YtggojmnalmjapaaLess4
namespace Go.Proofs.Ytggojmnalmjapaa
set_option maxRecDepth 100000
open Go.RowKit Go.Deep

theorem bools10_b (va vb : Value) (a b : List Bool) (w : World) (ha : Gl .bool w va a) (hb : Gl .bool w vb b) (r : Bool) (hr : decide (a = b) = r) :
    Calls Try.prog 22 #[va, vb] w fun e w' => e = .returned (.bool r) ∧ Below w.heap.size w w' :=
  (bools_any va vb a b w ha hb).mono fun e w' ⟨h1, n, h2⟩ => ⟨by rw [h1, hr], by rw [h2]; exact below_dr (Below.refl _ _) n⟩
theorem ints10_b (va vb : Value) (a b : List Int) (w : World) (ha : Il w va a) (hb : Il w vb b) (r : Bool) (hr : decide (a = b) = r) :
    Calls Try.prog 11 #[va, vb] w fun e w' => e = .returned (.bool r) ∧ Below w.heap.size w w' := ints_b va vb a b w ha.sl hb.sl r hr

def BoolEnd (e : Ending) : Prop := ∃ r : Bool, e = .returned (.bool r)
set_option maxHeartbeats 1000000 in
theorem few10_any (tv wv nv : Value) (ts : List (List Int)) (was now : List (List Bool)) (w : World) (ht : Tl w tv ts) (hw : Bl w wv was) (hn : Bl w nv now) :
    Calls Try.prog 21 #[tv, wv, nv] w fun e w' => BoolEnd e ∧ w' = w := by
  obtain ⟨a0, cap0, rfl, l0, m0, o0⟩ := ht.at
  obtain ⟨a1, cap1, rfl, l1, m1, -⟩ := hw.at
  obtain ⟨a2, cap2, rfl, l2, m2, -⟩ := hn.at
  clear ht hw hn
  by_cases h0 : (70 : Int) < (ts.length : Int)
  · clear o0
    go_enter Try.func21, Try.ntmps21
    go_wp2
    go_ret
    exact ⟨⟨_, rfl⟩, rfl⟩
  by_cases h1 : (70 : Int) < (was.length : Int)
  · clear o0
    go_enter Try.func21, Try.ntmps21
    go_wp2
    go_ret
    exact ⟨⟨_, rfl⟩, rfl⟩
  by_cases h2 : (70 : Int) < (now.length : Int)
  · clear o0
    go_enter Try.func21, Try.ntmps21
    go_wp2
    go_ret
    exact ⟨⟨_, rfl⟩, rfl⟩
  go_enter Try.func21, Try.ntmps21
  go_wp2
  go_loop [7] (fun iv => ∃ i : Nat, i ≤ ts.length ∧ iv = .int .i64 i) (fun iv => ts.length - (intOf iv).toNat)
  case atStart => exact ⟨0, Nat.zero_le _, rfl⟩
  case round =>
    obtain ⟨i, hi, rfl⟩ := hrel
    by_cases hlt : i < ts.length
    · obtain ⟨b, off, rfl, hb, hc⟩ := o0 (by omega)
      obtain ⟨t, ht⟩ : ∃ x, ts[i]? = some x := ⟨_, List.getElem?_eq_getElem hlt⟩
      obtain ⟨x, c, c1, -⟩ := hc i t ht
      clear hc ht o0
      by_cases h9 : (70 : Int) < (t.length : Int)
      · go_wp2
        go_ret
        exact ⟨⟨_, rfl⟩, rfl⟩
      · go_wp2
        go_round
        case rel => exact ⟨i + 1, by omega, by go_num⟩
        case measure => simp [intOf]; omega
    · clear o0
      go_wp2
      go_ret
      exact ⟨⟨_, rfl⟩, rfl⟩

def NamesEnd (l : List ByteArray) (e : Ending) : Prop := ∃ r : Bool, e = .returned (.bool r) ∧ (r = true → ∀ s ∈ l, s.size ≤ maxLen)
set_option maxHeartbeats 1000000 in
theorem names10_any (v : Value) (l : List ByteArray) (w : World) (h : Gl .string w v l) :
    Calls Try.prog 16 #[v] w fun e w' => NamesEnd l e ∧ w' = w := by
  obtain ⟨a, cap, rfl, hl, hm, hna, ho⟩ := h.open
  clear h
  by_cases h0 : (1200 : Int) < (l.length : Int)
  · clear ho
    go_enter Try.func16, Try.ntmps16
    go_wp2
    go_ret
    exact ⟨⟨false, rfl, fun h => by cases h⟩, rfl⟩
  go_enter Try.func16, Try.ntmps16
  go_wp2
  go_loop [3] (fun iv => ∃ i : Nat, i ≤ l.length ∧ iv = .int .i64 i ∧ Hid (∀ s ∈ l.take i, s.size ≤ maxLen)) (fun iv => l.length - (intOf iv).toNat)
  case atStart => exact ⟨0, Nat.zero_le _, rfl, hide (by simp)⟩
  case round =>
    obtain ⟨i, hi, rfl, HS⟩ := hrel
    by_cases hlt : i < l.length
    · obtain ⟨b, off, rfl, hb, hc⟩ := ho (by omega)
      obtain ⟨s, hs⟩ : ∃ x, l[i]? = some x := ⟨_, List.getElem?_eq_getElem hlt⟩
      have c1 := hc i s hs
      have HI := hide hs
      clear hc hs ho
      by_cases h9 : (40 : Int) < (s.size : Int)
      · go_wp2
        go_ret
        exact ⟨⟨false, rfl, fun h => by cases h⟩, rfl⟩
      · go_wp2
        go_round
        case rel =>
          refine ⟨i + 1, by omega, by go_num, hide (fun x hx => ?_)⟩
          obtain ⟨hk9, e9⟩ := List.getElem?_eq_some_iff.1 (unhide HI)
          rw [List.take_succ_eq_append_getElem hk9, e9] at hx
          rcases List.mem_append.1 hx with h8 | h8
          · exact unhide HS x h8
          · simp only [List.mem_singleton] at h8
            rw [h8]
            unfold maxLen
            omega
        case measure => simp [intOf]; omega
    · have HE : Hid (∀ s ∈ l, s.size ≤ maxLen) := by
        have := unhide HS
        rw [List.take_of_length_le (by omega)] at this
        exact this
      clear ho
      go_wp2
      go_ret
      exact ⟨⟨true, rfl, fun _ => unhide HE⟩, rfl⟩

/-! ### Literals -/

theorem Gl.cells10 {α : Type} {f : α → Value} {w : World} {b : Nat} (l : List α) {n : Nat} (hn : l.length = n) (hl : n ≤ 4294967296) (h : ∀ i y, l[i]? = some y → w.cell? ⟨b, i, none⟩ = some (f y)) : Gl f w (.slice (some ⟨b, 0, none⟩) n n) l := by
  subst hn
  refine ⟨_, _, rfl, Nat.le_refl _, by unfold maxLen; omega, (fun h => by cases h), fun x hx i y hy => ?_⟩
  obtain rfl := Option.some.inj hx
  rw [Addr.add_lit, Nat.zero_add]
  exact h i y hy
theorem Lg.one10 {α : Type} {f : α → Value} {w : World} {b : Nat} (s : Option Addr × Nat × Nat) {l : List α} (h : Gl f w (sv s) l) (hc : w.cell? ⟨b, 0, none⟩ = some (sv s)) : Lg f w (.slice (some ⟨b, 0, none⟩) 1 1) [l] := by
  refine ⟨[s], Gl.cells10 [s] rfl (by decide) (fun i y hy => ?_), rfl, fun i s' l' hs hl => ?_⟩
  · cases i with
    | zero => simp at hy; subst hy; exact hc
    | succ i => simp at hy
  · cases i with
    | zero => simp at hs hl; subst hs hl; exact h
    | succ i => simp at hs
theorem ask1 {α : Type} {a y : α} {i : Nat} {P : Nat → α → Prop} (h : [a][i]? = some y) (h0 : P 0 a) : P i y := by
  cases i with
  | zero => simp at h; subst h; exact h0
  | succ i => simp at h
theorem ask2 {α : Type} {a b y : α} {i : Nat} {P : Nat → α → Prop} (h : [a, b][i]? = some y) (h0 : P 0 a) (h1 : P 1 b) : P i y := by
  match i, h with
  | 0, h => simp at h; subst h; exact h0
  | 1, h => simp at h; subst h; exact h1
  | i + 2, h => simp at h
theorem ask3 {α : Type} {a b c y : α} {i : Nat} {P : Nat → α → Prop} (h : [a, b, c][i]? = some y) (h0 : P 0 a) (h1 : P 1 b) (h2 : P 2 c) : P i y := by
  match i, h with
  | 0, h => simp at h; subst h; exact h0
  | 1, h => simp at h; subst h; exact h1
  | 2, h => simp at h; subst h; exact h2
  | i + 3, h => simp at h

theorem R.ex1 : R.order [7, 3, 7] [⟨#[98]⟩, ⟨#[97]⟩, ⟨#[97]⟩] = [1, 2, 0] := by kernel_rfl
theorem R.ex2 : R.table [true, false, true] 5 = [5, -1, 6] := by kernel_rfl
theorem R.ex3 : R.carry 2 [[0, 1]] [[true, true]] [[true, false]] = [true, false] := by kernel_rfl
theorem R.ex5 : R.thn [2, -1, 9] [1, 2, 0] = [0, -1, -1] := by kernel_rfl
end Go.Proofs.Ytggojmnalmjapaa
