/-
  The contracts of layer 7 with their answers named, as the laws' walks take them; lists that are handed over; the chapter's example.
-/
import Derived.Test.YtgiefkeophobhaaROr7
import Derived.Test.YtgiefkeophobhaaRUnpack7
import Derived.Test.YtgiefkeophobhaaSearch7
import Derived.Test.YtgiefkeophobhaaRFind7
import Derived.Test.YtgiefkeophobhaaTexts7
import Derived.Deep.RegionHeld3
namespace Go.Proofs.Ytgiefkeophobhaa
open Go.RowKit

theorem Gl.lit {α : Type} {f : α → Value} {e : TypeId} {w : World} {cs : Array Value} (zs : List α) {n : Nat} (hn : zs.length = n) (h : cs.toList = zs.map f) (hl : n ≤ 4294967296) :
    Gl f (w.alloc (.cells cs e)) (.slice (some ⟨w.heap.size, 0, none⟩) n n) zs := by
  have hs : cs.size = n * 1 := by
    have := congrArg List.length h
    simp at this
    omega
  have ho := World.ownsRow_lit (base := 0) (size := 1) (e := e) w cs n (Nat.zero_le _) (by unfold maxLen; omega) hs
  rw [h] at ho
  exact Gl.owned ho

/-- Two, three lists, or one, that are handed over. -/
theorem As.two {w : World} {s t : Option Addr × Nat × Nat} {l m : List ByteArray} (h1 : Gl .string w (sv s) l) (h2 : Gl .string w (sv t) m) : As w [s, t] [l, m] :=
  ⟨rfl, fun i s' l' hs hl => by
    match i, hs, hl with
    | 0, hs, hl => simp at hs hl; subst hs hl; exact h1
    | 1, hs, hl => simp at hs hl; subst hs hl; exact h2⟩
theorem As.three {w : World} {s t u : Option Addr × Nat × Nat} {l m q : List ByteArray} (h1 : Gl .string w (sv s) l) (h2 : Gl .string w (sv t) m) (h3 : Gl .string w (sv u) q) : As w [s, t, u] [l, m, q] :=
  ⟨rfl, fun i s' l' hs hl => by
    match i, hs, hl with
    | 0, hs, hl => simp at hs hl; subst hs hl; exact h1
    | 1, hs, hl => simp at hs hl; subst hs hl; exact h2
    | 2, hs, hl => simp at hs hl; subst hs hl; exact h3⟩
theorem As.one {w : World} {s : Option Addr × Nat × Nat} {l : List ByteArray} (h1 : Gl .string w (sv s) l) : As w [s] [l] :=
  ⟨rfl, fun i s' l' hs hl => by
    match i, hs, hl with
    | 0, hs, hl => simp at hs hl; subst hs hl; exact h1⟩

theorem Ll.two {w : World} (s t : Option Addr × Nat × Nat) {l m : List ByteArray} (h1 : Gl .string w (sv s) l) (h2 : Gl .string w (sv t) m) :
    Ll (w.alloc (.cells #[sv s, sv t] 22)) (.slice (some ⟨w.heap.size, 0, none⟩) 2 2) [l, m] :=
  ⟨[s, t], Gl.lit [s, t] rfl rfl (by omega), (As.two h1 h2).below (below_alloc _ _)⟩
theorem Ll.three {w : World} (s t u : Option Addr × Nat × Nat) {l m q : List ByteArray} (h1 : Gl .string w (sv s) l) (h2 : Gl .string w (sv t) m) (h3 : Gl .string w (sv u) q) :
    Ll (w.alloc (.cells #[sv s, sv t, sv u] 22)) (.slice (some ⟨w.heap.size, 0, none⟩) 3 3) [l, m, q] :=
  ⟨[s, t, u], Gl.lit [s, t, u] rfl rfl (by omega), (As.three h1 h2 h3).below (below_alloc _ _)⟩
theorem Ll.one {w : World} (s : Option Addr × Nat × Nat) {l : List ByteArray} (h1 : Gl .string w (sv s) l) :
    Ll (w.alloc (.cells #[sv s] 22)) (.slice (some ⟨w.heap.size, 0, none⟩) 1 1) [l] :=
  ⟨[s], Gl.lit [s] rfl rfl (by omega), (As.one h1).below (below_alloc _ _)⟩
theorem Ll.none (w : World) : Ll w (.slice none 0 0) [] := ⟨[], Gl.nil _ _, rfl, fun i s l hs => by simp at hs⟩

/-! ### the contracts as the laws' walks take them: the answer named, 'Below' -/
theorem may_b (v : Value) (l : List ByteArray) (w : World) (h : Gl .string w v l) (r : Bool) (hr : D.may l = r) : Calls Try.prog 12 #[v] w fun e w' => e = .returned (.bool r) ∧ Below w.heap.size w w' :=
  (may_any v l w h r hr).mono fun _ _ ⟨h1, h2⟩ => ⟨h1, by rw [h2]; exact Below.refl _ _⟩
theorem few_b (v : Value) (l : List ByteArray) (w : World) (h : Gl .string w v l) (r : Bool) (hr : D.few l = r) : Calls Try.prog 11 #[v] w fun e w' => e = .returned (.bool r) ∧ Below w.heap.size w w' :=
  (few_any v l w h r hr).mono fun _ _ ⟨h1, h2⟩ => ⟨h1, by rw [h2]; exact Below.refl _ _⟩
theorem find_b (v : Value) (l : List ByteArray) (x : ByteArray) (w : World) (h : Gl .string w v l) (r : Int) (hr : D.findR l x = r) : Calls Try.prog 14 #[v, .string x] w fun e w' => e = .returned (.int .i64 r) ∧ Below w.heap.size w w' :=
  (find_any v l x w h r hr).mono fun _ _ ⟨h1, h2⟩ => ⟨h1, by rw [h2]; exact Below.refl _ _⟩
theorem bel_b (v : Value) (l : List ByteArray) (x : ByteArray) (w : World) (h : Gl .string w v l) (r : Int) (hr : D.belR l x = r) : Calls Try.prog 16 #[v, .string x] w fun e w' => e = .returned (.int .i64 r) ∧ Below w.heap.size w w' :=
  (bel_any v l x w h r hr).mono fun _ _ ⟨h1, h2⟩ => ⟨h1, by rw [h2]; exact Below.refl _ _⟩
theorem pack_b (v : Value) (l : List ByteArray) (w : World) (h : Gl .string w v l) (z : List Int) (hz : D.pack l = z) : Calls Try.prog 24 #[v] w fun e w' => ∃ a c, e = .returned (.slice a z.length c) ∧ Sl .u8 w' (.slice a z.length c) z ∧ Below w.heap.size w w' :=
  (pack_any v l w h z hz).mono fun _ _ ⟨v', h1, h2, h3⟩ => by
    have S := Sl.owned h2
    obtain ⟨a, c, rfl, -⟩ := id S
    exact ⟨a, c, h1, S, h3⟩
theorem rpack_b (v : Value) (l : List ByteArray) (w : World) (h : Gl .string w v l) (hz : ∀ x ∈ l, x.size ≤ maxLen) (z : List Int) (hr : D.pack l = z) : Calls Try.prog 25 #[v] w fun e w' => ∃ a c, e = .returned (.slice a z.length c) ∧ Sl .u8 w' (.slice a z.length c) z ∧ Below w.heap.size w w' :=
  (rpack_any v l w h hz z hr).mono fun _ _ ⟨v', h1, h2, h3⟩ => by
    have S := Sl.owned h2
    obtain ⟨a, c, rfl, -⟩ := id S
    exact ⟨a, c, h1, S, h3⟩
theorem unpack_b (v : Value) (l : List Int) (w : World) (h : Sl .u8 w v l) (hb : V.Byt l) (z : List ByteArray) (n : Int) (hr : D.unR l = (z, n)) : Calls Try.prog 21 #[v] w fun e w' => ∃ a c, e = .returned (.tuple #[.slice a z.length c, .int .i64 n]) ∧ Gl .string w' (.slice a z.length c) z ∧ Below w.heap.size w w' :=
  (unpack_any v l w h hb z n hr).mono fun _ _ ⟨v', h1, h2, h3⟩ => by
    have S := Gl.owned h2
    obtain ⟨a, c, rfl, -⟩ := id S
    exact ⟨a, c, h1, S, h3⟩
theorem runpack_b (v : Value) (l : List Int) (w : World) (h : Sl .u8 w v l) (hb : V.Byt l) (hll : l.length ≤ 3000) (z : List ByteArray) (n : Int) (hr : D.unR l = (z, n)) : Calls Try.prog 22 #[v] w fun e w' => ∃ a c, e = .returned (.tuple #[.slice a z.length c, .int .i64 n]) ∧ Gl .string w' (.slice a z.length c) z ∧ Below w.heap.size w w' :=
  (runpack_any v l w h hb hll z n hr).mono fun _ _ ⟨v', h1, h2, h3⟩ => by
    have S := Gl.owned h2
    obtain ⟨a, c, rfl, -⟩ := id S
    exact ⟨a, c, h1, S, h3⟩
theorem or_b (v : Value) (ls : List (List ByteArray)) (w : World) (h : Ll w v ls) (hll : ls.length ≤ 1000) (z : List ByteArray) (hr : D.orR ls = z) : Calls Try.prog 19 #[v] w fun e w' => ∃ a c, e = .returned (.slice a z.length c) ∧ Gl .string w' (.slice a z.length c) z ∧ Below w.heap.size w w' :=
  (or_any v ls w h hll z hr).mono fun _ _ ⟨v', h1, h2, h3⟩ => by
    have S := Gl.owned h2
    obtain ⟨a, c, rfl, -⟩ := id S
    exact ⟨a, c, h1, S, h3⟩
theorem ror_b (v : Value) (ls : List (List ByteArray)) (w : World) (h : Ll w v ls) (hl4 : ls.length ≤ 4) (hfw : ∀ l ∈ ls, D.few l = true) (z : List ByteArray) (hr : D.orR ls = z) : Calls Try.prog 20 #[v] w fun e w' => ∃ a c, e = .returned (.slice a z.length c) ∧ Gl .string w' (.slice a z.length c) z ∧ Below w.heap.size w w' :=
  (ror_any v ls w h hl4 hfw z hr).mono fun _ _ ⟨v', h1, S, h3⟩ => by
    obtain ⟨a, c, rfl, -⟩ := id S
    exact ⟨a, c, h1, S, h3⟩

/-! ### the example -/
def exL : List ByteArray := [⟨#[97, 110]⟩, ⟨#[97, 110, 100]⟩, ⟨#[98]⟩]
theorem ex_may : D.may exL = true := by kernel_rfl
theorem ex_pack : D.pack exL = [3, 0, 2, 97, 110, 2, 1, 100, 0, 1, 98] := by kernel_rfl
theorem ex_unp : D.unR [3, 0, 2, 97, 110, 2, 1, 100, 0, 1, 98] = (exL, 0) := by rw [← ex_pack]; exact D.unR_pack ex_may
theorem ex_find : D.findR exL ⟨#[98]⟩ = 2 := by kernel_rfl
theorem ex_bel : D.belR exL ⟨#[98]⟩ = 2 := by kernel_rfl
theorem ex_or : D.orR [[⟨#[97, 110, 100]⟩, ⟨#[98]⟩], [⟨#[97, 110]⟩, ⟨#[97, 110, 100]⟩]] = exL := by kernel_rfl
end Go.Proofs.Ytgiefkeophobhaa
