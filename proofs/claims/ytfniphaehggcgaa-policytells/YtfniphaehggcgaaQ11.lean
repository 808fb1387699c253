/-
  Texts put together: Each10, Table10, Alike10, ZBase12, PlainZ12, Small12.
-/
import Derived.Test.YtfniphaehggcgaaQ09
import Derived.Test.YtfniphaehggcgaaQ07
import Derived.Test.YtfniphaehggcgaaQ10
import Derived.Lib.SliceRun
import Derived.BigQuiet
/-
  The contract of each: the list of what is told of each of so many, whoever tells it; what the teller keeps, and changes, is a letter here.
-/
namespace Go.Proofs.Ytfniphaehggcgaa
set_option maxRecDepth 100000
open Go.RowKit Go.Deep

theorem Try.infoI10 : (Try.prog.info? 3).map (fun i => (i.zero, i.size, i.bytes)) = some (some (.int .i64 0), 1, 8) := by kernel_rfl

theorem grown10_refl (w : World) (row : Option Nat) : w.grownBy w row := ⟨rfl, rfl, rfl, Nat.le_refl _, fun _ _ _ => rfl⟩
theorem grown10_bel {w w1 w2 : World} {row : Option Nat} (h : w.grownBy w1 row) (hb : Below w.heap.size w1 w2) : w.grownBy w2 row :=
  ⟨hb.os.trans h.os, hb.tape.trans h.tape, hb.output.trans h.output, Nat.le_trans h.size hb.size, fun k hk hne => (hb.block k hk).trans (h.block k hk hne)⟩
theorem grown10_none {w w1 : World} (h : w.grownBy w1 none) : Below w.heap.size w w1 := ⟨h.os, h.tape, h.output, h.size, fun k hk => h.block k hk (by simp)⟩
theorem own10_far {w w' : World} {B K n : Nat} {e : TypeId} {v : Value} {xs : List Value} {row : Option Nat} (h : w.ownsRow B e K v n xs) (hg : w.grownBy w' row) (hr : ∀ g, row = some g → g < B) : w'.ownsRow B e K v n xs := by
  refine ⟨h.1, ?_⟩
  rcases h.2 with h0 | ⟨g, cap, cur, rfl, hb, hgg, rest⟩
  · exact .inl h0
  · refine .inr ⟨g, cap, cur, rfl, hb, ?_, rest⟩
    rw [hg.block g (Array.getElem?_eq_some_iff.1 hgg).1 (fun e => by have := hr g e.symm; omega)]
    exact hgg

/-- What each hands back. -/
def Eached (w : World) (n : Nat) (F : Nat → Int) (row : Option Nat) (Inv : Nat → World → Prop) (e : Ending) (w' : World) : Prop :=
  e = .returned (.slice (some ⟨w.heap.size, 0, none⟩) n n) ∧ w'.ownsRow w.heap.size 3 1 (.slice (some ⟨w.heap.size, 0, none⟩) n n) n (((List.range n).map F).map (Value.int .i64)) ∧ Inv n w' ∧ w.grownBy w' row

end Go.Proofs.Ytfniphaehggcgaa

/-
  The contracts of within, of the closures that Table, Then, Turn and places hand to each, of Table and Then, and of the document's own Table and Then.
-/
namespace Go.Proofs.Ytfniphaehggcgaa
set_option maxRecDepth 100000
open Go.RowKit Go.Deep

/-- Numbers of the call's own that a function hands back. -/
def MadeN (w : World) (m : List Int) (e : Ending) (w' : World) : Prop :=
  ∃ v', e = .returned v' ∧ w'.ownsRow w.heap.size 3 1 v' m.length (m.map (Value.int .i64)) ∧ Below w.heap.size w w'
abbrev Il (w : World) (v : Value) (l : List Int) : Prop := Gl (Value.int .i64) w v l
theorem Il.sl {w : World} {v : Value} {l : List Int} (h : Il w v l) : Sl .i64 w v l := by
  obtain ⟨a, cap, hv, hl, hm, hn, hc⟩ := h
  refine ⟨a, cap, hv, hl, hm, hn, fun x hx i hi => ?_⟩
  rw [hc x hx i l[i] (List.getElem?_eq_getElem hi)]
  simp [List.getD, hi]
theorem Il.of {w : World} {v : Value} {l : List Int} (h : Sl .i64 w v l) : Il w v l := by
  obtain ⟨a, cap, hv, hl, hm, hn, hc⟩ := h
  refine ⟨a, cap, hv, hl, hm, hn, fun x hx i y hi => ?_⟩
  rw [hc x hx i (List.getElem?_eq_some_iff.1 hi).1]
  simp [List.getD, hi]
theorem cell10 {w w' : World} {p : Addr} {x : Value} {B : Nat} (h : w.cell? p = some x) (hb : Below B w w') (hp : p.block < B) : w'.cell? p = some x := (hb.cell hp).trans h
theorem cellK10 {w w' : World} {p : Addr} {x : Value} (h : w.cell? p = some x) (hb : Below w.heap.size w w') : w'.cell? p = some x := (hb.cell (World.block_lt_of_cell? w _ h)).trans h
theorem froz10 {w w' : World} {p : Addr} {B : Nat} (h : w.frozen? p = false) (hb : Below B w w') (hp : p.block < B) : w'.frozen? p = false := (hb.frozen hp).trans h
theorem grown10_of {w w' : World} (row : Option Nat) (h : Below w.heap.size w w') : w.grownBy w' row := ⟨h.os, h.tape, h.output, h.size, fun k hk _ => h.block k hk⟩

def R.inn (x n : Int) : Bool := decide (0 ≤ x ∧ x < n)
end Go.Proofs.Ytfniphaehggcgaa

/-
  Slices of slices, whatever the elements are ('Lg': what they read as); the contracts of alike, of the closures that alike and Carry make, and of slices.EqualFunc at them.
-/
namespace Go.Proofs.Ytfniphaehggcgaa
set_option maxRecDepth 100000
open Go.RowKit Go.Deep

/-- The slice value v reads, in w, as the lists ls. -/
def Lg {α : Type} (f : α → Value) (w : World) (v : Value) (ls : List (List α)) : Prop :=
  ∃ us, Gl sv w v us ∧ us.length = ls.length ∧ ∀ (i : Nat) (s : Option Addr × Nat × Nat) (l : List α), us[i]? = some s → ls[i]? = some l → Gl f w (sv s) l
section
variable {α : Type} {f : α → Value}
theorem Lg.below {w w' : World} {v : Value} {ls : List (List α)} (h : Lg f w v ls) (hb : Below w.heap.size w w') : Lg f w' v ls := by
  obtain ⟨us, h1, h2, h3⟩ := h
  exact ⟨us, h1.below hb, h2, fun i s l hs hl => (h3 i s l hs hl).below hb⟩
theorem Lg.at {w : World} {v : Value} {ls : List (List α)} (h : Lg f w v ls) : ∃ a cap, v = .slice a ls.length cap ∧ ls.length ≤ cap ∧ cap ≤ 9223372036854775807 ∧
    (0 < ls.length → ∃ b off, a = some ⟨b, off, none⟩ ∧ b < w.heap.size ∧ ∀ k l, ls[k]? = some l → ∃ x c, w.cell? ⟨b, off + k, none⟩ = some (.slice x l.length c) ∧ Gl f w (.slice x l.length c) l) := by
  obtain ⟨us, h1, h2, h3⟩ := h
  obtain ⟨a, cap, rfl, hl, hm, hna, ho⟩ := h1.open
  rw [h2] at hl ho ⊢
  refine ⟨a, cap, rfl, hl, hm, fun hp => ?_⟩
  obtain ⟨b, off, rfl, hb, hc⟩ := ho hp
  refine ⟨b, off, rfl, hb, fun k l hk => ?_⟩
  have hku : k < us.length := by rw [h2]; exact (List.getElem?_eq_some_iff.1 hk).1
  have hs := List.getElem?_eq_getElem hku
  have c1 := hc k _ hs
  have g1 := h3 k _ l hs hk
  obtain ⟨x, c, hv, -⟩ := id g1
  rw [hv] at c1 g1
  exact ⟨x, c, c1, g1⟩
end
abbrev Tl (w : World) (v : Value) (ts : List (List Int)) : Prop := Lg (Value.int .i64) w v ts
abbrev Bll (w : World) (v : Value) (ls : List (List Bool)) : Prop := Lg Value.bool w v ls

theorem eq_num (n k : Nat) : ((n : Int) == (k : Int)) = decide (n = k) := by
  rw [Bool.eq_iff_iff]
  simp only [beq_iff_eq, decide_eq_true_eq]
  omega
theorem R.alk_len {ts : List (List Int)} {ls : List (List Bool)} (h : ¬ ts.length = ls.length) : R.alk ts ls = false := by
  cases hb : R.alk ts ls with
  | false => rfl
  | true => exact absurd (R.alk_iff.1 hb).1 h
theorem R.alk_not {ts : List (List Int)} {ls : List (List Bool)} {i : Nat} {t : List Int} {l : List Bool} (h1 : ts[i]? = some t) (h2 : ls[i]? = some l) (h : ¬ t.length = l.length) : R.alk ts ls = false := by
  cases hb : R.alk ts ls with
  | false => rfl
  | true => exact absurd ((R.alk_iff.1 hb).2 i t l h1 h2) h

end Go.Proofs.Ytfniphaehggcgaa

/-
  Sizes, as they read ('Zl'), cut, and kept beside rows that grow; lists of lists of whatever kind ('Gg'). No function of the program is named here.
-/
namespace Go.Proofs.Ytfniphaehggcgaa
set_option maxRecDepth 100000
open Go.RowKit

/-- A size, as it reads. -/
structure Sz where
  gen : Int
  docs : Int
  dead : Int
  busy : Bool
def encZ (s : Sz) : List Value := [.int .i64 s.gen, .int .i64 s.docs, .int .i64 s.dead, .bool s.busy]
def zv (s : Sz) : Value := .agg #[.int .i64 s.gen, .int .i64 s.docs, .int .i64 s.dead, .bool s.busy]
theorem encZ_len (s : Sz) : (encZ s).length = 4 := rfl
theorem encZ_one (s : Sz) : ∀ u ∈ encZ s, u.oneCell' = true := by
  intro u hu
  simp only [encZ, List.mem_cons, List.not_mem_nil, or_false] at hu
  rcases hu with rfl | rfl | rfl | rfl <;> rfl
theorem Try.infoZ : (Try.prog.info? 36).map (fun i => (i.zero, i.size, i.bytes)) = some (some (.agg #[.int .i64 0, .int .i64 0, .int .i64 0, .bool false]), 4, 32) := by kernel_rfl
theorem Try.infoLZ : (Try.prog.info? 22).map (fun i => (i.zero, i.size, i.bytes)) = some (some (.slice none 0 0), 1, 24) := by kernel_rfl
theorem Try.infoLI : (Try.prog.info? 47).map (fun i => (i.zero, i.size, i.bytes)) = some (some (.slice none 0 0), 1, 24) := by kernel_rfl

/-- The slice value v reads, in w, as the sizes L. -/
abbrev Zl (w : World) (v : Value) (L : List Sz) : Prop := Kl encZ 4 w v L

theorem Zl.open {w : World} {v : Value} {L : List Sz} (h : Zl w v L) :
    ∃ a cap, v = .slice a L.length cap ∧ L.length ≤ cap ∧ cap ≤ 9223372036854775807 ∧ (a = none → cap = 0) ∧
      (0 < L.length → ∃ b off, a = some ⟨b, off, none⟩ ∧ b < w.heap.size ∧ ∀ i s, L[i]? = some s → w.cell? ⟨b, off + i * 4, none⟩ = some (.int .i64 s.gen) ∧ w.cell? ⟨b, off + i * 4 + 1, none⟩ = some (.int .i64 s.docs) ∧
        w.cell? ⟨b, off + i * 4 + 2, none⟩ = some (.int .i64 s.dead) ∧ w.cell? ⟨b, off + i * 4 + 3, none⟩ = some (.bool s.busy)) := by
  obtain ⟨a, cap, rfl, hl, hm, hn, ho⟩ := Kl.open h encZ_len (by decide)
  refine ⟨a, cap, rfl, hl, hm, hn, fun hp => ?_⟩
  obtain ⟨b, off, rfl, hb, hc⟩ := ho hp
  exact ⟨b, off, rfl, hb, fun i s hi => ⟨hc i s hi 0 _ rfl, hc i s hi 1 _ rfl, hc i s hi 2 _ rfl, hc i s hi 3 _ rfl⟩⟩

/-- The cells of a size, in its box. -/
theorem box4 {w : World} {g : Nat} {s : Sz} {T : TypeId} {fr : Nat × Nat} (h : w.heap[g]? = some (.cells #[.int .i64 s.gen, .int .i64 s.docs, .int .i64 s.dead, .bool s.busy] T fr)) :
    w.cell? ⟨g, 0, none⟩ = some (.int .i64 s.gen) ∧ w.cell? ⟨g, 1, none⟩ = some (.int .i64 s.docs) ∧ w.cell? ⟨g, 2, none⟩ = some (.int .i64 s.dead) ∧ w.cell? ⟨g, 3, none⟩ = some (.bool s.busy) :=
  ⟨box_cell h rfl, box_cell h rfl, box_cell h rfl, box_cell h rfl⟩

/-! ### What a slice lies in -/

/-- The block of a slice has cells of type T. -/
def Ty12 (T : TypeId) (w : World) (v : Value) : Prop := ∀ g, v.ownBlock = some g → ∃ cs fr, w.heap[g]? = some (.cells cs T fr)
theorem Ty12.nil (T : TypeId) (w : World) (n c : Nat) : Ty12 T w (.slice none n c) := fun g h => by cases h
theorem Ty12.below {T : TypeId} {w w' : World} {v : Value} (h : Ty12 T w v) (hb : Below w.heap.size w w') : Ty12 T w' v := fun g hg => by
  obtain ⟨cs, fr, h1⟩ := h g hg
  exact ⟨cs, fr, box_below h1 hb⟩
theorem Ty12.grown {T : TypeId} {w w' : World} {v : Value} {row : Option Nat} (h : Ty12 T w v) (hg : w.grownBy w' row) (hne : ∀ g, v.ownBlock = some g → some g ≠ row) : Ty12 T w' v := fun g hg' => by
  obtain ⟨cs, fr, h1⟩ := h g hg'
  exact ⟨cs, fr, box_grown h1 hg (hne g hg')⟩
theorem Ty12.own {w : World} {B : Nat} {e : TypeId} {K : Nat} {v : Value} {n : Nat} {xs : List Value} (o : w.ownsRow B e K v n xs) : Ty12 e w v := fun g hg => by
  rcases o.2 with ⟨rfl, -⟩ | ⟨g', cap, cur, rfl, -, h2, -⟩
  · cases hg
  · simp only [Value.ownBlock, Option.some.injEq] at hg
    subst hg
    exact ⟨_, _, h2⟩
theorem Ty12.apart {T : TypeId} {w : World} {B : Nat} {e : TypeId} {K : Nat} {v u : Value} {n : Nat} {xs : List Value} (h : Ty12 T w v) (o : w.ownsRow B e K u n xs) (hne : T ≠ e) : ∀ g, v.ownBlock = some g → some g ≠ u.ownBlock := fun g hg => by
  obtain ⟨cs, fr, h1⟩ := h g hg
  exact own_ne_box o h1 hne
theorem Ty12.same {T : TypeId} {w : World} {v v' : Value} (h : Ty12 T w v) (hv : ∀ g, v'.ownBlock = some g → v.ownBlock = some g) : Ty12 T w v' := fun g hg => h g (hv g hg)

theorem Kl.keep12 {α : Type} {f : α → List Value} {k : Nat} {w w' : World} {v : Value} {l : List α} {row : Option Nat} (h : Kl f k w v l) (hg : w.grownBy w' row) (hne : ∀ g, v.ownBlock = some g → some g ≠ row) : Kl f k w' v l := by
  obtain ⟨a, cap, rfl, hl, hm, hn, hc⟩ := h
  refine ⟨a, cap, rfl, hl, hm, hn, fun x hx i y hi j u hu => ?_⟩
  subst hx
  have c0 := hc x rfl i y hi j u hu
  have e : (x.add (i * k + j)).block = x.block := by unfold Addr.add; split <;> rfl
  have hb := World.block_lt_of_cell? w _ c0
  rw [e] at hb
  rw [← c0]
  refine World.cell?_of_block ?_
  rw [e]
  exact hg.block _ hb (hne _ rfl)
theorem Kl.keep12e {α : Type} {f : α → List Value} {k : Nat} {w w' : World} {v : Value} {l : List α} {row : Option Nat} (h : Kl f k w v l) (hg : w.grownBy w' row) (hne : 0 < l.length → ∀ g, v.ownBlock = some g → some g ≠ row) : Kl f k w' v l := by
  cases l with
  | nil =>
    obtain ⟨a, cap, rfl, hl, hm, hn, -⟩ := h
    exact ⟨a, cap, rfl, hl, hm, hn, fun x _ i y hi => by simp at hi⟩
  | cons y l => exact h.keep12 hg (hne (by simp))
theorem Gl.keep12 {α : Type} {f : α → Value} {w w' : World} {v : Value} {l : List α} {row : Option Nat} (h : Gl f w v l) (hg : w.grownBy w' row) (hne : ∀ g, v.ownBlock = some g → some g ≠ row) : Gl f w' v l := by
  obtain ⟨a, cap, rfl, hl, hm, hn, hc⟩ := h
  refine ⟨a, cap, rfl, hl, hm, hn, fun x hx i y hi => ?_⟩
  subst hx
  have c0 := hc x rfl i y hi
  have e : (x.add i).block = x.block := by unfold Addr.add; split <;> rfl
  have hb := World.block_lt_of_cell? w _ c0
  rw [e] at hb
  rw [← c0]
  refine World.cell?_of_block ?_
  rw [e]
  exact hg.block _ hb (hne _ rfl)

/-! ### Cut -/

theorem Kl.take12 {α : Type} {f : α → List Value} {k : Nat} {w : World} {a : Option Addr} {n cap : Nat} {l : List α} (h : Kl f k w (.slice a n cap) l) (m : Nat) (hm : m ≤ n) : Kl f k w (.slice a m cap) (l.take m) := by
  obtain ⟨a', cap', hv, hl, hm', hn, hc⟩ := h
  simp only [Value.slice.injEq] at hv
  obtain ⟨rfl, rfl, rfl⟩ := hv
  have hlen : (l.take m).length = m := by simp; omega
  refine ⟨a, cap, by rw [hlen], by omega, hm', hn, fun x hx i y hi => hc x hx i y ?_⟩
  rw [List.getElem?_take] at hi
  split at hi
  · exact hi
  · cases hi
theorem Kl.drop12 {α : Type} {f : α → List Value} {k : Nat} {w : World} {a : Option Addr} {n cap : Nat} {l : List α} (h : Kl f k w (.slice a n cap) l) (j : Nat) (hj : j ≤ n) :
    ∃ a', sliced a j n cap k = .slice a' (n - j) (cap - j) ∧ (∀ (m c : Nat) g, (Value.slice a' m c).ownBlock = some g → (Value.slice a n cap).ownBlock = some g) ∧ Kl f k w (.slice a' (n - j) (cap - j)) (l.drop j) := by
  obtain ⟨a', cap', hv, hl, hm', hn, hc⟩ := h
  simp only [Value.slice.injEq] at hv
  obtain ⟨rfl, rfl, rfl⟩ := hv
  refine ⟨_, rfl, ?_, ?_⟩
  · intro m c g hg
    cases a with
    | none => split at hg <;> cases hg
    | some x =>
      split at hg
      · exact hg
      · have e : (x.add (j * k)).block = x.block := by unfold Addr.add; split <;> rfl
        simp only [Option.map_some, Value.ownBlock, Option.some.injEq] at hg ⊢
        rw [← hg, e]
  · refine ⟨_, _, by rw [List.length_drop], by rw [List.length_drop]; omega, by omega, ?_, ?_⟩
    · intro h9
      split at h9
      · have := hn h9; omega
      · have : a = none := by simpa using h9
        have := hn this; omega
    · intro x hx i u hi r v hv
      rw [List.getElem?_drop] at hi
      have hil := (List.getElem?_eq_some_iff.1 hi).1
      rw [if_neg (by omega)] at hx
      cases a with
      | none => cases hx
      | some y =>
        simp only [Option.map_some, Option.some.injEq] at hx
        subst hx
        have := hc _ rfl (j + i) u hi r v hv
        rw [← this]
        congr 1
        have e : ∀ (p : Addr) (m n : Nat), (p.add m).add n = p.add (m + n) := by
          intro p m n
          obtain ⟨b, off, spot⟩ := p
          cases spot with
          | none => simp only [Addr.add_lit, Nat.add_assoc]
          | some s => by_cases h1 : m = 0 <;> by_cases h2 : n = 0 <;> simp [Addr.add, h1, h2, Nat.add_assoc]
        rw [e]
        congr 1
        rw [Nat.add_mul]
        omega

theorem Try.zto (a : Option Addr) (n cap m : Nat) (x : Int) (hx : x = m) (hm : m ≤ cap) (ha : ∀ p, a = some p → p.spot = none) (w : World) :
    (Instr.slice 22 (.slice a n cap) none (some (.int .i64 x)) none).run Try.prog w = .ok (.slice a m cap) w := by
  subst hx
  have hs : ∀ w : World, (sizeOf (Try.prog.elem 22)).run Try.prog w = .ok 4 w := fun w => by kernel_rfl
  rw [run_slice_h w 22 _ n cap (by kernel_rfl) .i64 m (by omega) (by omega), hs]
  cases a with
  | none => simp [Result.andThen, sliced]
  | some p =>
    obtain ⟨b, off, spot⟩ := p
    obtain rfl : spot = none := ha _ rfl
    simp [Result.andThen, sliced, Addr.add_lit]
theorem Try.zfrom (a : Option Addr) (n cap m : Nat) (x : Int) (hx : x = m) (hm : m ≤ n) (w : World) :
    (Instr.slice 22 (.slice a n cap) (some (.int .i64 x)) none none).run Try.prog w = .ok (sliced a m n cap 4) w := by
  subst hx
  have hs : ∀ w : World, (sizeOf (Try.prog.elem 22)).run Try.prog w = .ok 4 w := fun w => by kernel_rfl
  rw [run_slice_l w 22 _ n cap (by kernel_rfl) .i64 m (by omega) (by omega), hs]
  simp [Result.andThen]
theorem Zl.spot {w : World} {a : Option Addr} {n cap : Nat} {L : List Sz} (h : Zl w (.slice a n cap) L) (hp : 0 < n) : ∃ b off, a = some ⟨b, off, none⟩ ∧ b < w.heap.size := by
  obtain ⟨a', c', hv, -, -, -, ho⟩ := h.open
  simp only [Value.slice.injEq] at hv
  obtain ⟨rfl, rfl, rfl⟩ := hv
  obtain ⟨b, off, h1, h2, -⟩ := ho hp
  exact ⟨b, off, h1, h2⟩

/-! ### Lists of lists, whatever they read as -/

/-- Each slice reads, by R, as what stands in its place, and lies in a block of cells of type T. -/
def Gg {β : Type} (R : World → Value → β → Prop) (T : TypeId) (w : World) (us : List Pts) (gs : List β) : Prop :=
  us.length = gs.length ∧ ∀ (i : Nat) (s : Pts) (l : β), us[i]? = some s → gs[i]? = some l → R w (sv s) l ∧ Ty12 T w (sv s)
section
variable {β : Type} {R : World → Value → β → Prop} {T : TypeId}
theorem Gg.nil (w : World) : Gg R T w [] [] := ⟨rfl, fun i s l h => by simp at h⟩
theorem Gg.below (hR : ∀ {w w' : World} {v : Value} {l : β}, R w v l → Below w.heap.size w w' → R w' v l) {w w' : World} {us : List Pts} {gs : List β} (h : Gg R T w us gs) (hb : Below w.heap.size w w') : Gg R T w' us gs :=
  ⟨h.1, fun i s l hs hl => ⟨hR (h.2 i s l hs hl).1 hb, (h.2 i s l hs hl).2.below hb⟩⟩
theorem Gg.grown (hR : ∀ {w w' : World} {v : Value} {l : β} {row : Option Nat}, R w v l → w.grownBy w' row → (∀ g, v.ownBlock = some g → some g ≠ row) → R w' v l) {w w' : World} {us : List Pts} {gs : List β} {row : Option Nat} (h : Gg R T w us gs) (hg : w.grownBy w' row) (hne : ∀ s ∈ us, ∀ g, (sv s).ownBlock = some g → some g ≠ row) : Gg R T w' us gs :=
  ⟨h.1, fun i s l hs hl => ⟨hR (h.2 i s l hs hl).1 hg (hne s (List.mem_of_getElem? hs)), (h.2 i s l hs hl).2.grown hg (hne s (List.mem_of_getElem? hs))⟩⟩
theorem Gg.ty {w : World} {us : List Pts} {gs : List β} (h : Gg R T w us gs) {s : Pts} (hs : s ∈ us) : Ty12 T w (sv s) := by
  obtain ⟨i, hi⟩ := List.mem_iff_getElem?.1 hs
  have hl : i < gs.length := by rw [← h.1]; exact (List.getElem?_eq_some_iff.1 hi).1
  exact (h.2 i s _ hi (List.getElem?_eq_getElem hl)).2
theorem Gg.snoc {w : World} {us : List Pts} {gs : List β} (h : Gg R T w us gs) {s : Pts} {l : β} (h1 : R w (sv s) l) (h2 : Ty12 T w (sv s)) : Gg R T w (us ++ [s]) (gs ++ [l]) := by
  refine ⟨by simp [h.1], fun i s' l' hs hl => ?_⟩
  rcases Nat.lt_trichotomy i us.length with hi | hi | hi
  · rw [List.getElem?_append_left hi] at hs
    rw [List.getElem?_append_left (by rw [← h.1]; exact hi)] at hl
    exact h.2 i s' l' hs hl
  · subst hi
    rw [List.getElem?_append_right (Nat.le_refl _), Nat.sub_self] at hs
    rw [List.getElem?_append_right (by rw [h.1]; exact Nat.le_refl _), h.1, Nat.sub_self] at hl
    simp at hs hl
    subst hs hl
    exact ⟨h1, h2⟩
  · rw [List.getElem?_eq_none (by simp; omega)] at hs
    cases hs
theorem Gg.append {w : World} {us vs : List Pts} {gs hs : List β} (h : Gg R T w us gs) (k : Gg R T w vs hs) : Gg R T w (us ++ vs) (gs ++ hs) := by
  refine ⟨by simp [h.1, k.1], fun i s l h1 h2 => ?_⟩
  by_cases hi : i < us.length
  · rw [List.getElem?_append_left hi] at h1
    rw [List.getElem?_append_left (by rw [← h.1]; exact hi)] at h2
    exact h.2 i s l h1 h2
  · rw [List.getElem?_append_right (by omega)] at h1
    rw [List.getElem?_append_right (by rw [← h.1]; omega), ← h.1] at h2
    exact k.2 _ s l h1 h2
end
/-- The slice value v reads, in w, as the lists of sizes gs. -/
def Lz (w : World) (v : Value) (gs : List (List Sz)) : Prop := ∃ us : List Pts, Gl sv w v us ∧ us.length = gs.length ∧ ∀ (i : Nat) (s : Pts) (l : List Sz), us[i]? = some s → gs[i]? = some l → Zl w (sv s) l
theorem Lz.below {w w' : World} {v : Value} {gs : List (List Sz)} (h : Lz w v gs) (hb : Below w.heap.size w w') : Lz w' v gs := by
  obtain ⟨us, h1, h2, h3⟩ := h
  exact ⟨us, h1.below hb, h2, fun i s l hs hl => Kl.below (h3 i s l hs hl) hb⟩
theorem Lz.at {w : World} {v : Value} {ls : List (List Sz)} (h : Lz w v ls) : ∃ a cap, v = .slice a ls.length cap ∧ ls.length ≤ cap ∧ cap ≤ 9223372036854775807 ∧
    (0 < ls.length → ∃ b off, a = some ⟨b, off, none⟩ ∧ b < w.heap.size ∧ ∀ k l, ls[k]? = some l → ∃ x c, w.cell? ⟨b, off + k, none⟩ = some (.slice x l.length c) ∧ Zl w (.slice x l.length c) l) := by
  obtain ⟨us, h1, h2, h3⟩ := h
  obtain ⟨a, cap, rfl, hl, hm, hna, ho⟩ := h1.open
  rw [h2] at hl ho ⊢
  refine ⟨a, cap, rfl, hl, hm, fun hp => ?_⟩
  obtain ⟨b, off, rfl, hb, hc⟩ := ho hp
  refine ⟨b, off, rfl, hb, fun k l hk => ?_⟩
  have hku : k < us.length := by rw [h2]; exact (List.getElem?_eq_some_iff.1 hk).1
  have hs := List.getElem?_eq_getElem hku
  have c1 := hc k _ hs
  have g1 := h3 k _ l hs hk
  obtain ⟨x, c, hv, -⟩ := id g1
  rw [hv] at c1 g1
  exact ⟨x, c, c1, g1⟩
/-- Lists of sizes, in a row of the call's own. -/
def LzO (B : Nat) (w : World) (v : Value) (gs : List (List Sz)) : Prop := ∃ us, w.ownsRow B 22 1 v us.length (us.map sv) ∧ Gg Zl 36 w us gs
theorem LzO.nil (B : Nat) (w : World) : LzO B w (.slice none 0 0) [] := ⟨[], World.ownsRow_nil _ _ _ _, Gg.nil w⟩
theorem LzO.below {B : Nat} {w w' : World} {v : Value} {gs : List (List Sz)} (h : LzO B w v gs) (hb : Below w.heap.size w w') : LzO B w' v gs := by
  obtain ⟨us, h1, h2⟩ := h
  exact ⟨us, own_below h1 hb, Gg.below (R := Zl) (fun h hb => Kl.below h hb) h2 hb⟩
theorem LzO.lz {B : Nat} {w : World} {v : Value} {gs : List (List Sz)} (h : LzO B w v gs) : Lz w v gs := by
  obtain ⟨us, h1, h2⟩ := h
  exact ⟨us, Gl.owned h1, h2.1, fun i s l hs hl => (h2.2 i s l hs hl).1⟩
/-- Lists of numbers, in a row of the call's own, none of them in the block of the row tk. -/
def LiO (B : Nat) (w : World) (v tk : Value) (ls : List (List Int)) : Prop := ∃ us, w.ownsRow B 47 1 v us.length (us.map sv) ∧ Gg Il 3 w us ls ∧ ∀ s ∈ us, ∀ g, (sv s).ownBlock = some g → some g ≠ tk.ownBlock
theorem LiO.nil (B : Nat) (w : World) (tk : Value) : LiO B w (.slice none 0 0) tk [] := ⟨[], World.ownsRow_nil _ _ _ _, Gg.nil w, fun s hs => by cases hs⟩
theorem LiO.below {B : Nat} {w w' : World} {v tk : Value} {gs : List (List Int)} (h : LiO B w v tk gs) (hb : Below w.heap.size w w') : LiO B w' v tk gs := by
  obtain ⟨us, h1, h2, h3⟩ := h
  exact ⟨us, own_below h1 hb, Gg.below (R := Il) (fun h hb => Gl.below h hb) h2 hb, h3⟩
theorem LiO.tl {B : Nat} {w : World} {v tk : Value} {gs : List (List Int)} (h : LiO B w v tk gs) : Tl w v gs := by
  obtain ⟨us, h1, h2, -⟩ := h
  exact ⟨us, Gl.owned h1, h2.1, fun i s l hs hl => (h2.2 i s l hs hl).1⟩
end Go.Proofs.Ytfniphaehggcgaa

/-
  What the policies do, in plain words ('Z'): sizes that may be, levels, what is proposed, and what comes of it. No program is named here.
-/
namespace Go.Proofs.Ytfniphaehggcgaa
set_option maxRecDepth 100000
open Go.RowKit

namespace Z
def live (s : Sz) : Int := s.docs - s.dead
def lives : List Sz → Int
  | [] => 0
  | s :: r => live s + lives r
def gens (l : List Sz) : List Int := l.map (·.gen)
def Ok (s : Sz) : Prop := (1 ≤ s.gen ∧ s.gen ≤ 34359738367) ∧ (0 ≤ s.docs ∧ s.docs ≤ 64) ∧ (0 ≤ s.dead ∧ s.dead ≤ s.docs)
/-- Sizes may be. -/
def Ready (l : List Sz) : Prop := l.length ≤ 16 ∧ (∀ s ∈ l, Ok s) ∧ (gens l).Nodup
/-- Sizes by themselves may be. -/
def Fit (l : List Sz) : Prop := l.length ≤ 16 ∧ ∀ s ∈ l, Ok s
theorem Ready.fit {l : List Sz} (h : Ready l) : Fit l := ⟨h.1, h.2.1⟩
theorem Fit.sub {l m : List Sz} (h : Fit l) (hs : m.Sublist l) : Fit m := ⟨Nat.le_trans hs.length_le h.1, fun s hm => h.2 s (hs.subset hm)⟩

theorem Ok.live {s : Sz} (h : Ok s) : 0 ≤ live s ∧ live s ≤ 64 := by
  obtain ⟨-, ⟨h1, h2⟩, h3, h4⟩ := h
  unfold Z.live
  omega
theorem lives_app (a b : List Sz) : lives (a ++ b) = lives a + lives b := by
  induction a with
  | nil => simp [lives]
  | cons s r ih => simp only [List.cons_append, lives, ih]; omega
theorem lives_le {l : List Sz} (h : ∀ s ∈ l, Ok s) : 0 ≤ lives l ∧ lives l ≤ l.length * 64 := by
  induction l with
  | nil => simp [lives]
  | cons s r ih =>
    have h1 := (h s (by simp)).live
    have h2 := ih (fun x hx => h x (by simp [hx]))
    simp only [lives, List.length_cons]
    omega
theorem lives_take {l : List Sz} {i : Nat} {s : Sz} (h : l[i]? = some s) : lives (l.take (i + 1)) = lives (l.take i) + live s := by
  rw [List.take_add_one, h, lives_app]
  simp [lives]

/-- How often m can be divided by per, till it is below it. -/
def lev (per m : Nat) : Nat := if h : 2 ≤ per ∧ per ≤ m then lev per (m / per) + 1 else 0
termination_by m
decreasing_by exact Nat.div_lt_self (by omega) (by omega)
theorem lev_low {per m : Nat} (h : m < per) : lev per m = 0 := by rw [lev]; exact dif_neg (by omega)
theorem lev_high {per m : Nat} (h2 : 2 ≤ per) (h : per ≤ m) : lev per m = lev per (m / per) + 1 := by rw [lev, dif_pos ⟨h2, h⟩]
theorem lev_le {per : Nat} : ∀ (n m : Nat), m ≤ n → lev per m ≤ m
  | 0, m, h => by
    have : m = 0 := by omega
    subst this
    rw [lev]
    split
    · omega
    · exact Nat.le_refl _
  | n + 1, m, h => by
    rw [lev]
    split
    · rename_i h1
      have h3 : m / per < m := Nat.div_lt_self (by omega) (by omega)
      have := lev_le (per := per) n (m / per) (by omega)
      omega
    · omega
theorem lev_mono {per : Nat} : ∀ (n m k : Nat), k ≤ n → m ≤ k → lev per m ≤ lev per k
  | 0, m, k, h1, h2 => by
    have e1 : m = 0 := by omega
    have e2 : k = 0 := by omega
    subst e1 e2
    exact Nat.le_refl _
  | n + 1, m, k, h1, h2 => by
    rw [lev]
    conv => rhs; rw [lev]
    split
    · rename_i h3
      rw [dif_pos ⟨h3.1, by omega⟩]
      have h4 : k / per < k := Nat.div_lt_self (by omega) (by omega)
      have := lev_mono (per := per) n (m / per) (k / per) (by omega) (Nat.div_le_div_right h2)
      omega
    · omega
theorem lev_64 {per : Nat} (h2 : 2 ≤ per) (h8 : per ≤ 8) : lev per 64 ≤ 6 := by
  have h : per = 2 ∨ per = 3 ∨ per = 4 ∨ per = 5 ∨ per = 6 ∨ per = 7 ∨ per = 8 := by omega
  have step : ∀ p m, 2 ≤ p → p ≤ m → lev p m = lev p (m / p) + 1 := fun p m => lev_high
  rcases h with rfl | rfl | rfl | rfl | rfl | rfl | rfl <;> simp (config := { decide := true }) [step, lev_low]
/-- The level of a size. -/
def lv (per : Nat) (s : Sz) : Nat := lev per (live s).toNat
theorem lv_le {per : Nat} {s : Sz} (h : Ok s) : lv per s ≤ lev per 64 := lev_mono 64 _ _ (Nat.le_refl _) (by have := h.live; omega)

/-- Per at once, as long as so many are left, if they have room together. -/
def chunks (per : Nat) (most : Int) (l : List Sz) : List (List Sz) :=
  if _h : 2 ≤ per ∧ per ≤ l.length then (if lives (l.take per) ≤ most then [l.take per] else []) ++ chunks per most (l.drop per) else []
termination_by l.length
decreasing_by simp only [List.length_drop]; omega
theorem chunks_few {per : Nat} {most : Int} {l : List Sz} (h : l.length < per) : chunks per most l = [] := by rw [chunks]; exact dif_neg (by omega)
theorem chunks_more {per : Nat} {most : Int} {l : List Sz} (h2 : 2 ≤ per) (h : per ≤ l.length) : chunks per most l = (if lives (l.take per) ≤ most then [l.take per] else []) ++ chunks per most (l.drop per) := by rw [chunks, dif_pos ⟨h2, h⟩]

/-- All are idle, and of one level. -/
def alk (per : Nat) : List Sz → Bool
  | [] => true
  | x :: r => (x :: r).all fun s => !s.busy && decide (lv per s = lv per x)
/-- One behind the other, if they are idle, of one level, and have room together. -/
def runs (per : Nat) (most : Int) (l : List Sz) : List (List Sz) :=
  if _h : 2 ≤ per ∧ per ≤ l.length then (if (alk per (l.take per) && decide (lives (l.take per) ≤ most)) = true then l.take per :: runs per most (l.drop per) else runs per most (l.drop 1)) else []
termination_by l.length
decreasing_by
  · simp only [List.length_drop]; omega
  · simp only [List.length_drop]; omega
theorem runs_few {per : Nat} {most : Int} {l : List Sz} (h : l.length < per) : runs per most l = [] := by rw [runs]; exact dif_neg (by omega)
theorem runs_yes {per : Nat} {most : Int} {l : List Sz} (h2 : 2 ≤ per) (h : per ≤ l.length) (h3 : alk per (l.take per) = true) (h4 : lives (l.take per) ≤ most) : runs per most l = l.take per :: runs per most (l.drop per) := by rw [runs, dif_pos ⟨h2, h⟩, if_pos (by simp [h3, h4])]
theorem runs_no {per : Nat} {most : Int} {l : List Sz} (h2 : 2 ≤ per) (h : per ≤ l.length) (h3 : ¬ (alk per (l.take per) = true ∧ lives (l.take per) ≤ most)) : runs per most l = runs per most (l.drop 1) := by rw [runs, dif_pos ⟨h2, h⟩, if_neg (by simpa using h3)]

/-- Those of one level that are idle. -/
def ofLv (per k : Nat) (s : Sz) : Bool := !s.busy && decide (lv per s = k)
def tierTo (per : Nat) (most : Int) (l : List Sz) (k : Nat) : List (List Sz) := (List.range k).flatMap fun k => chunks per most (l.filter (ofLv per k))
theorem tierTo_succ (per : Nat) (most : Int) (l : List Sz) (k : Nat) : tierTo per most l (k + 1) = tierTo per most l k ++ chunks per most (l.filter (ofLv per k)) := by
  unfold tierTo
  rw [List.range_succ, List.flatMap_append]
  simp
def tierG (per : Nat) (most : Int) (l : List Sz) : List (List Sz) := tierTo per most l (lev per 64 + 1)
def idle (s : Sz) : Bool := !s.busy
def forceG (n : Int) (l : List Sz) : List (List Sz) := if ((l.filter idle).length : Int) ≤ n then [] else [(l.filter idle).take ((l.filter idle).length - n.toNat + 1)]
def crit (half : Bool) (s : Sz) : Bool := if half = true then decide (live s < s.dead) else decide (0 < s.dead)
/-- Those that are proposed by themselves. -/
def one (half : Bool) (T : List Int) (s : Sz) : Bool := crit half s && !(decide (s.gen ∈ T))
/-- What is proposed: those together, and those by themselves. -/
def prop (half : Bool) (l : List Sz) (G : List (List Sz)) : List (List Int) := G.map gens ++ ((l.filter idle).filter (one half (G.map gens).flatten)).map fun s => [s.gen]

def Pol (per most : Int) : Prop := (2 ≤ per ∧ per ≤ 8) ∧ (1 ≤ most ∧ most ≤ 64)
end Z
end Go.Proofs.Ytfniphaehggcgaa

/-
  The contracts of policy's smallest functions: what is asked of one size, or of one number.
-/
namespace Go.Proofs.Ytfniphaehggcgaa
set_option maxRecDepth 100000
open Go.RowKit

theorem idle_any (s : Sz) (w : World) : Calls Try.prog 46 #[zv s] w fun e w' => e = .returned (.bool (Z.idle s)) ∧ Below w.heap.size w w' := by
  obtain ⟨g, d, x, b⟩ := s
  unfold Z.idle zv
  go_enter Try.func46, Try.ntmps46
  go_wp2
  go_ret
  exact ⟨rfl, below_alloc _ _⟩

theorem hasDead_any (s : Sz) (w : World) : Calls Try.prog 61 #[zv s] w fun e w' => e = .returned (.bool (Z.crit false s)) ∧ Below w.heap.size w w' := by
  obtain ⟨g, d, x, b⟩ := s
  unfold Z.crit zv
  go_enter Try.func61, Try.ntmps61
  go_wp2
  go_ret
  exact ⟨rfl, below_alloc _ _⟩

theorem living_any (s : Sz) (w : World) (h : Z.Ok s) : Calls Try.prog 49 #[zv s] w fun e w' => e = .returned (.int .i64 (Z.live s)) ∧ Below w.heap.size w w' := by
  obtain ⟨g, d, x, b⟩ := s
  obtain ⟨-, ⟨h1, h2⟩, h3, h4⟩ := h
  simp only at h1 h2 h3 h4
  have hw1 : IntKind.i64.wrap (d - x) = d - x := by rw [IntKind.wrap_i64]; omega
  unfold Z.live zv
  go_enter Try.func49, Try.ntmps49
  go_wp2
  go_ret
  exact ⟨rfl, below_alloc _ _⟩

def Z.inn (n lo hi : Int) : Bool := decide (lo ≤ n) && decide (n ≤ hi)
theorem zwithin_any (n lo hi : Int) (w : World) (r : Bool) (hr : r = true ↔ lo ≤ n ∧ n ≤ hi) : Calls Try.prog 47 #[.int .i64 n, .int .i64 lo, .int .i64 hi] w fun e w' => e = .returned (.bool r) ∧ w' = w := by
  by_cases h1 : lo ≤ n
  · have g1 : decide (lo ≤ n) = true := by simpa using h1
    have h9 : r = decide (n ≤ hi) := by rw [Bool.eq_iff_iff, hr]; simp [h1]
    clear hr
    go_enter Try.func47, Try.ntmps47
    go_wp2
    go_ret
    exact ⟨by rw [h9]; rfl, rfl⟩
  · have g1 : decide (lo ≤ n) = false := by simpa using h1
    have h9 : r = false := by rw [Bool.eq_false_iff]; intro h; exact h1 (hr.1 h).1
    clear hr
    go_enter Try.func47, Try.ntmps47
    go_wp2
    go_ret
    exact ⟨by subst h9; rfl, rfl⟩

theorem zlevel_any (m per : Nat) (w : World) (h2 : 2 ≤ per) (h8 : per ≤ 1000) (hm : m ≤ 1000000) : Calls Try.prog 64 #[.int .i64 (m : Int), .int .i64 (per : Int)] w fun e w' => e = .returned (.int .i64 (Z.lev per m : Int)) ∧ w' = w := by
  go_enter Try.func64, Try.ntmps64
  go_wp2
  go_loop [0, 5] (fun nv iv => ∃ k t : Nat, nv = .int .i64 k ∧ iv = .int .i64 t ∧ k ≤ m ∧ t ≤ m ∧ Hid (Z.lev per m = t + Z.lev per k)) (fun nv _ => (intOf nv).toNat)
  case atStart => exact ⟨m, 0, rfl, rfl, Nat.le_refl _, Nat.zero_le _, by show _ = _; omega⟩
  case round =>
    obtain ⟨k, t, rfl, rfl, hk, ht, H⟩ := hrel
    by_cases hlt : per ≤ k
    · have hd : (k : Int) / (per : Int) = ((k / per : Nat) : Int) := by simp
      have hd2 : Int.tdiv (k : Int) (per : Int) = ((k / per : Nat) : Int) := by simp
      have hp0 : ¬ ((per : Int) = 0) := by omega
      have hless : k / per < k := Nat.div_lt_self (by omega) (by omega)
      have hl := Z.lev_high h2 hlt
      have hlm := Z.lev_le (per := per) m m (Nat.le_refl _)
      have H2 : Hid (Z.lev per m = (t + 1) + Z.lev per (k / per)) := by show _ = _; rw [unhide H, hl]; omega
      have h9 : t + 1 ≤ m := by have := unhide H2; omega
      obtain ⟨q, hq⟩ : ∃ q, k / per = q := ⟨_, rfl⟩
      rw [hq] at hd hd2 hless H2
      have HQ := hide hq
      clear hq hl hlm
      go_wp2
      go_round
      case rel => exact ⟨q, t + 1, by first | rfl | simp [hd, hd2] | go_num, by go_num, by omega, by omega, H2⟩
      case measure => simp [intOf]; omega
    · have hl := Z.lev_low (per := per) (m := k) (by omega)
      have H2 : Hid (Z.lev per m = t) := by show _ = _; rw [unhide H, hl]; omega
      clear hl
      go_wp2
      go_ret
      exact ⟨by rw [unhide H2]; rfl, rfl⟩
end Go.Proofs.Ytfniphaehggcgaa
