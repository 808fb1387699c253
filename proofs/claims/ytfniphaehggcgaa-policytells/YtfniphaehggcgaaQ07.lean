/-
  Texts put together: Same, Help, PBase, SameInts, Cut6.
-/
import Derived.Test.YtfniphaehggcgaaRows
import Derived.Test.YtfniphaehggcgaaQ04
import Derived.Deep.QuietTactic
import Derived.BigQuiet
import Derived.Test.YtfniphaehggcgaaQ06
/-
  The contract of the function that holds two rows of bytes against each other (Bytes): it tells whether they are the same, and only reads.
-/
namespace Go.Proofs.Ytfniphaehggcgaa
set_option maxRecDepth 100000
open Go.RowKit

theorem take_snoc (l : List Int) (k : Nat) (h : k < l.length) : l.take (k + 1) = l.take k ++ [l[k]] := by
  rw [List.take_succ_eq_append_getElem h]

theorem same_step {xs ys : List Int} {k : Nat} (hl : xs.length = ys.length) (hk : k < xs.length) (h : xs.take k = ys.take k) (he : xs[k] = ys[k]'(by omega)) : xs.take (k + 1) = ys.take (k + 1) := by
  rw [take_snoc xs k hk, take_snoc ys k (by omega), h, he]

theorem same_end {xs ys : List Int} {k : Nat} (hl : xs.length = ys.length) (hk : ¬ k < xs.length) (h : xs.take k = ys.take k) : decide (xs = ys) = true := by
  rw [List.take_of_length_le (by omega), List.take_of_length_le (by omega)] at h
  simpa using h

theorem same_not {xs ys : List Int} {k : Nat} (hl : xs.length = ys.length) (hk : k < xs.length) (he : ¬ xs[k] = ys[k]'(by omega)) : decide (xs = ys) = false := by
  apply decide_eq_false
  intro h
  subst h
  exact he rfl

theorem same_len {xs ys : List Int} (hl : ¬ xs.length = ys.length) : decide (xs = ys) = false := by
  apply decide_eq_false
  intro h
  subst h
  exact hl rfl

end Go.Proofs.Ytfniphaehggcgaa

/-
  Small steps that every walk over slices of bytes takes: worlds one behind the other, and the contracts of Get and Bytes with the answer named.
-/
namespace Go.Proofs.Ytfniphaehggcgaa
set_option maxRecDepth 100000
open Go.RowKit

theorem hide {p : Prop} (h : p) : Hid p := h
theorem unhide {p : Prop} (h : Hid p) : p := h

theorem byt_of {l : List Int} (h : l.all (fun c => decide (0 ≤ c ∧ c ≤ 255)) = true) : V.Byt l := fun c hc => by simpa using List.all_eq_true.1 h c hc

theorem below_all {w w1 : World} (h : Below w.heap.size w w1) (o : Obj) : Below w.heap.size w (w1.alloc o) := h.alloc h.size o
theorem below_dr {w w1 : World} (h : Below w.heap.size w w1) (n : Nat) : Below w.heap.size w (w1.drewN n) := ⟨h.os, h.tape, h.output, h.size, h.block⟩

end Go.Proofs.Ytfniphaehggcgaa

/-
  Plain facts on slices of postings as the walks need them: what a slice of postings reads as ('Pl'), and that this stays behind draws and new memory; rows of postings of the call's own. No function of the program is named here.
-/
namespace Go.Proofs.Ytfniphaehggcgaa
set_option maxRecDepth 100000
open Go.RowKit

/-- A posting, as it reads. -/
structure Pt where
  d : Int
  a : List Int

theorem Pt.eq {p q : Pt} (h1 : p.d = q.d) (h2 : p.a = q.a) : p = q := by
  cases p
  cases q
  simp at h1 h2
  subst h1
  subst h2
  rfl

/-- Are two postings, two lists of them, the same? -/
def Pt.eqb (f g : Pt) : Bool := decide (f.d = g.d) && decide (f.a = g.a)
def Pt.eqs : List Pt → List Pt → Bool
  | [], [] => true
  | f :: L, g :: M => Pt.eqb f g && Pt.eqs L M
  | _, _ => false
theorem Pt.eqb_iff {f g : Pt} : Pt.eqb f g = true ↔ f = g := by
  cases f
  cases g
  simp [Pt.eqb]
theorem Pt.eqs_iff : ∀ {L M : List Pt}, Pt.eqs L M = true ↔ L = M
  | [], [] => by simp [Pt.eqs]
  | [], _ :: _ => by simp [Pt.eqs]
  | _ :: _, [] => by simp [Pt.eqs]
  | f :: L, g :: M => by simp [Pt.eqs, Pt.eqb_iff, Pt.eqs_iff]
theorem Pt.eqs_refl (L : List Pt) : Pt.eqs L L = true := Pt.eqs_iff.2 rfl
theorem Pt.eqb_not {f g : Pt} (h : ¬ f = g) : Pt.eqb f g = false := by rw [← Bool.not_eq_true, Pt.eqb_iff]; exact h
theorem Pt.eqs_not {L M : List Pt} (h : ¬ L = M) : Pt.eqs L M = false := by rw [← Bool.not_eq_true, Pt.eqs_iff]; exact h
theorem Pt.eqs_comm (L M : List Pt) : Pt.eqs L M = Pt.eqs M L := by
  by_cases h : L = M
  · rw [h]
  · rw [Pt.eqs_not h, Pt.eqs_not (fun e => h e.symm)]

theorem below_set {w w1 : World} (h : Below w.heap.size w w1) {p : Addr} (hp : w.heap.size ≤ p.block) (u : Value) : Below w.heap.size w (w1.setCell p u) := h.setCell hp u
theorem below_dr' {B : Nat} {w w1 : World} (h : Below B w w1) (n : Nat) : Below B w (w1.drewN n) := ⟨h.os, h.tape, h.output, h.size, h.block⟩

/-- The slice value v reads, in w, as the postings L. -/
def Pl (w : World) (v : Value) (L : List Pt) : Prop :=
  ∃ a cap, v = .slice a L.length cap ∧ L.length ≤ cap ∧ cap ≤ maxLen ∧ (a = none → cap = 0) ∧
    ∀ x, a = some x → ∀ i p, L[i]? = some p → ∃ dv, w.cell? (x.add (i * 2)) = some (.int .i64 p.d) ∧ w.cell? (x.add (i * 2 + 1)) = some dv ∧ Sl .i64 w dv p.a

theorem Pl.nil (w : World) : Pl w (.slice none 0 0) [] := ⟨none, 0, rfl, Nat.le_refl _, Nat.zero_le _, fun _ => rfl, fun _ h => by cases h⟩

theorem Pl.below {w w' : World} {v : Value} {L : List Pt} (h : Pl w v L) (hb : Below w.heap.size w w') : Pl w' v L := by
  obtain ⟨a, cap, hv, hl, hm, hn, hc⟩ := h
  refine ⟨a, cap, hv, hl, hm, hn, fun x hx i f hi => ?_⟩
  obtain ⟨dv, h0, h1, h3⟩ := hc x hx i f hi
  exact ⟨dv, by rw [hb.cell (World.block_lt_of_cell? w _ h0)]; exact h0, by rw [hb.cell (World.block_lt_of_cell? w _ h1)]; exact h1, h3.below hb⟩

theorem Pl.drewN {w : World} {v : Value} {L : List Pt} (h : Pl w v L) (n : Nat) : Pl (w.drewN n) v L := h

theorem Pl.len {w : World} {v : Value} {L : List Pt} (h : Pl w v L) : L.length ≤ 9223372036854775807 := by
  obtain ⟨a, cap, _, hl, hm, _⟩ := h
  unfold maxLen at hm
  omega

/-- As it is used: the value, written out; where there is an element, a block and a place in it. -/
theorem Pl.open {w : World} {v : Value} {L : List Pt} (h : Pl w v L) :
    ∃ a cap, v = .slice a L.length cap ∧ L.length ≤ cap ∧ cap ≤ 9223372036854775807 ∧ (a = none → cap = 0) ∧
      (0 < L.length → ∃ b off, a = some ⟨b, off, none⟩ ∧ b < w.heap.size ∧ ∀ i p, L[i]? = some p → ∃ da dc, w.cell? ⟨b, off + i * 2, none⟩ = some (.int .i64 p.d) ∧ w.cell? ⟨b, off + i * 2 + 1, none⟩ = some (.slice da p.a.length dc) ∧
        Sl .i64 w (.slice da p.a.length dc) p.a) := by
  obtain ⟨a, cap, hv, hl, hm, hn, hc⟩ := h
  refine ⟨a, cap, hv, hl, hm, hn, fun hp => ?_⟩
  cases a with
  | none => have := hn rfl; omega
  | some x =>
    obtain ⟨b, off, spot⟩ := x
    obtain ⟨f0, hf0⟩ : ∃ f, L[0]? = some f := ⟨L[0], List.getElem?_eq_getElem hp⟩
    obtain ⟨dv, h0, _⟩ := hc _ rfl 0 f0 hf0
    have hs : spot = none := by simpa [Addr.add] using World.cell?_spot h0
    subst hs
    refine ⟨b, off, rfl, by simpa [Addr.add] using World.block_lt_of_cell? w _ h0, fun i f hf => ?_⟩
    obtain ⟨dv, g0, g1, g3⟩ := hc _ rfl i f hf
    simp only [Addr.add_lit] at g0 g1
    obtain ⟨da, dc, rfl, r⟩ := id g3
    exact ⟨da, dc, g0, by rw [Nat.add_assoc]; exact g1, g3⟩

/-- The two cells of each posting, one behind the other; Q: what the places are. -/
def PCp (Q : Value → List Int → Prop) : List Value → List Pt → Prop
  | [], [] => True
  | a :: b :: cs, f :: L => a = .int .i64 f.d ∧ Q b f.a ∧ PCp Q cs L
  | _, _ => False
abbrev PC (w : World) : List Value → List Pt → Prop := PCp (Sl .i64 w)

theorem PCp.len {Q : Value → List Int → Prop} : ∀ {cs : List Value} {L : List Pt}, PCp Q cs L → cs.length = L.length * 2
  | [], [], _ => rfl
  | a :: b :: cs, f :: L, h => by have := PCp.len h.2.2; simp only [List.length_cons]; omega
  | [], _ :: _, h => h.elim
  | [_], _ :: _, h => h.elim
  | _ :: _, [], h => by simp [PCp] at h

theorem PCp.append {Q : Value → List Int → Prop} : ∀ {cs ds : List Value} {L M : List Pt}, PCp Q cs L → PCp Q ds M → PCp Q (cs ++ ds) (L ++ M)
  | [], _, [], _, _, h => h
  | a :: b :: cs, _, f :: L, _, h, k => ⟨h.1, h.2.1, PCp.append h.2.2 k⟩
  | [], _, _ :: _, _, h, _ => h.elim
  | [_], _, _ :: _, _, h, _ => h.elim
  | _ :: _, _, [], _, h, _ => by simp [PCp] at h

theorem PCp.turn {Q Q' : Value → List Int → Prop} (hw : ∀ v z, Q v z → Q' v z) : ∀ {cs : List Value} {L : List Pt}, PCp Q cs L → PCp Q' cs L
  | [], [], _ => trivial
  | a :: b :: cs, f :: L, h => ⟨h.1, hw _ _ h.2.1, PCp.turn hw h.2.2⟩
  | [], _ :: _, h => h.elim
  | [_], _ :: _, h => h.elim
  | _ :: _, [], h => by simp [PCp] at h

theorem PCp.below {w w' : World} {cs : List Value} {L : List Pt} (h : PC w cs L) (hb : Below w.heap.size w w') : PC w' cs L := h.turn fun _ _ h => h.below hb

theorem PCp.at {Q : Value → List Int → Prop} : ∀ {cs : List Value} {L : List Pt}, PCp Q cs L → ∀ i f, L[i]? = some f → ∃ dv, cs[i * 2]? = some (.int .i64 f.d) ∧ cs[i * 2 + 1]? = some dv ∧ Q dv f.a
  | [], [], _, i, f, hf => by simp at hf
  | a :: b :: cs, g :: L, h, i, f, hf => by
    cases i with
    | zero =>
      simp at hf
      subst hf
      exact ⟨b, by simp [h.1], by simp, h.2.1⟩
    | succ i =>
      obtain ⟨dv, h0, h1, h3⟩ := PCp.at h.2.2 i f (by simpa using hf)
      have e0 : (i + 1) * 2 = i * 2 + 1 + 1 := by omega
      exact ⟨dv, by rw [e0]; simpa using h0, by rw [e0]; simpa using h1, h3⟩
  | [], _ :: _, h, _, _, _ => h.elim
  | [_], _ :: _, h, _, _, _ => h.elim
  | _ :: _, [], h, _, _, _ => by simp [PCp] at h

/-- The postings from the i-th on, and those ahead of it. -/
theorem PCp.take {Q : Value → List Int → Prop} : ∀ {cs : List Value} {L : List Pt}, PCp Q cs L → ∀ i, PCp Q (cs.take (i * 2)) (L.take i)
  | [], [], _, i => by simp [PCp]
  | a :: b :: cs, g :: L, h, i => by
    cases i with
    | zero => simp [PCp]
    | succ i =>
      rw [show (i + 1) * 2 = i * 2 + 1 + 1 by omega]
      simp only [List.take_succ_cons]
      exact ⟨h.1, h.2.1, PCp.take h.2.2 i⟩
  | [], _ :: _, h, _ => h.elim
  | [_], _ :: _, h, _ => h.elim
  | _ :: _, [], h, _ => by simp [PCp] at h
theorem PCp.drop {Q : Value → List Int → Prop} : ∀ {cs : List Value} {L : List Pt}, PCp Q cs L → ∀ i, PCp Q (cs.drop (i * 2)) (L.drop i)
  | [], [], _, i => by simp [PCp]
  | a :: b :: cs, g :: L, h, i => by
    cases i with
    | zero => simpa using h
    | succ i =>
      rw [show (i + 1) * 2 = i * 2 + 1 + 1 by omega]
      simp only [List.drop_succ_cons]
      exact PCp.drop h.2.2 i
  | [], _ :: _, h, _ => h.elim
  | [_], _ :: _, h, _ => h.elim
  | _ :: _, [], h, _ => by simp [PCp] at h

theorem PCp.one {Q : Value → List Int → Prop} {dv : Value} {f : Pt} (h : Q dv f.a) : PCp Q [.int .i64 f.d, dv] [f] := ⟨rfl, h, trivial⟩

theorem Sl.oneCell {k : IntKind} {w : World} {v : Value} {zs : List Int} (h : Sl k w v zs) : v.oneCell' = true := by
  obtain ⟨a, cap, rfl, _⟩ := h
  rfl

theorem PCp.ones {Q : Value → List Int → Prop} (hq : ∀ v z, Q v z → v.oneCell' = true) : ∀ {cs : List Value} {L : List Pt}, PCp Q cs L → ∀ u ∈ cs, u.oneCell' = true
  | [], [], _, u, hu => by simp at hu
  | a :: b :: cs, g :: L, h, u, hu => by
    simp only [List.mem_cons] at hu
    rcases hu with rfl | rfl | hu
    · rw [h.1]; rfl
    · exact hq _ _ h.2.1
    · exact PCp.ones hq h.2.2 u hu
  | [], _ :: _, h, _, _ => h.elim
  | [_], _ :: _, h, _, _ => h.elim
  | _ :: _, [], h, _, _ => by simp [PCp] at h

/-- The cells of postings that a slice holds, as a list. -/
theorem Pl.cells {w : World} {x : Addr} : ∀ {L : List Pt} (o : Nat), (∀ i f, L[i]? = some f → ∃ dv, w.cell? (x.add ((o + i) * 2)) = some (.int .i64 f.d) ∧ w.cell? (x.add ((o + i) * 2 + 1)) = some dv ∧ Sl .i64 w dv f.a) →
    ∃ cs, PC w cs L ∧ ∀ j u, cs[j]? = some u → w.cell? (x.add (o * 2 + j)) = some u
  | [], _, _ => ⟨[], trivial, fun j u h => by simp at h⟩
  | f :: L, o, h => by
    obtain ⟨dv, h0, h1, h3⟩ := h 0 f rfl
    obtain ⟨cs, hc, hj⟩ := Pl.cells (L := L) (o + 1) fun i g hg => by
      have := h (i + 1) g (by simpa using hg)
      rw [show o + 1 + i = o + (i + 1) by omega]
      exact this
    refine ⟨.int .i64 f.d :: dv :: cs, ⟨rfl, h3, hc⟩, fun j u hu => ?_⟩
    match j, hu with
    | 0, hu => simp at hu; subst hu; simpa using h0
    | 1, hu => simp at hu; subst hu; simpa using h1
    | j + 2, hu =>
      have := hj j u (by simpa using hu)
      rw [show o * 2 + (j + 2) = (o + 1) * 2 + j by omega]
      exact this

/-- The postings from lo on, m of them. -/
theorem Pl.sub {w : World} {b off n cap : Nat} {L : List Pt} (h : Pl w (.slice (some ⟨b, off, none⟩) n cap) L) (lo m : Nat) (hm : lo + m ≤ n) :
    Pl w (.slice (some ⟨b, off + lo * 2, none⟩) m (cap - lo)) ((L.drop lo).take m) := by
  obtain ⟨a', cap', hv, hl, hm', hn, hc⟩ := h
  simp only [Value.slice.injEq] at hv
  obtain ⟨rfl, rfl, rfl⟩ := hv
  have hlen : ((L.drop lo).take m).length = m := by simp; omega
  refine ⟨_, cap - lo, by rw [hlen], by omega, by unfold maxLen at *; omega, (fun h => by cases h), fun x hx i p hi => ?_⟩
  obtain rfl := Option.some.inj hx
  have hij : i < m := by have := (List.getElem?_eq_some_iff.1 hi).1; omega
  have hi' : L[lo + i]? = some p := by
    rw [List.getElem?_take, if_pos hij, List.getElem?_drop] at hi
    exact hi
  obtain ⟨dv, h0, h1, h2⟩ := hc _ rfl (lo + i) p hi'
  rw [Addr.add_lit] at h0 h1
  refine ⟨dv, ?_, ?_, h2⟩
  · rw [Addr.add_lit, show off + lo * 2 + i * 2 = off + (lo + i) * 2 by omega]; exact h0
  · rw [Addr.add_lit, show off + lo * 2 + (i * 2 + 1) = off + ((lo + i) * 2 + 1) by omega]; exact h1

/-- No posting at all. -/
theorem Pl.zero {w : World} {a : Option Addr} {cap : Nat} (hm : cap ≤ maxLen) (hn : a = none → cap = 0) : Pl w (.slice a 0 cap) [] :=
  ⟨a, cap, rfl, Nat.zero_le _, hm, hn, fun _ _ i p h => by simp at h⟩

/-- A region that draws its order, and calls what makes memory, but answers the same in every world that has grown: walked once, in the order of the text. -/
theorem region_below {P : Program} {id : Nat} {Q : Exit → Act → World → Prop} {a : Act} {w : World} {l : List Oper} (hm : P.follows .mixedOrders = true) (hB : Region.lexB .any l.toArray = true)
    (h : wpQuiet P l.toArray (fun w' => Below w.heap.size w w') (fun a' => ∀ w', Below w.heap.size w w' → Q .normal a' w') l a) : (Code.region id l.toArray true).wp P Q a w :=
  wp_region_quiet (C := fun w' => Below w.heap.size w w') hm hB (Below.refl w.heap.size w).drew (by simpa using h)

theorem cell_keep {w w' : World} {a : Addr} {v : Value} (h : w.cell? a = some v) (hb : Below w.heap.size w w') : w'.cell? a = some v := (hb.cell (World.block_lt_of_cell? w a h)).trans h

/-! ### Rows of the call's own, side by side -/

theorem grown_set (w : World) (p : Addr) (u : Value) : w.grownBy (w.setCell p u) (some p.block) :=
  ⟨rfl, rfl, rfl, by have := ((Below.refl 0 w).setCell (p := p) (Nat.zero_le _) u).size; exact this, fun k _ hk => Below.heap_setCell w p u k (fun e => hk (by rw [e]))⟩

theorem grown_below {w w' : World} (h : Below w.heap.size w w') (row : Option Nat) : w.grownBy w' row := ⟨h.os, h.tape, h.output, h.size, fun k hk _ => h.block k hk⟩

theorem below_of_grown {w w' : World} {g B : Nat} (h : w.grownBy w' (some g)) (hg : B ≤ g) (hB : B ≤ w.heap.size) : Below B w w' :=
  ⟨h.os, h.tape, h.output, h.size, fun k hk => h.block k (by omega) (fun e => by simp at e; omega)⟩

theorem own_set {w : World} {B : Nat} {e : TypeId} {size : Nat} {v : Value} {n : Nat} {xs : List Value} (h : w.ownsRow B e size v n xs) {p : Addr} (hp : ∀ k, v.ownBlock = some k → k ≠ p.block) (u : Value) : (w.setCell p u).ownsRow B e size v n xs := by
  refine h.kept (grown_set w p u) ?_
  cases hv : v.ownBlock with
  | none => exact .inl rfl
  | some k => exact .inr fun e => hp k hv (Option.some.inj e)

theorem own_apart {w : World} {B B' : Nat} {e e' : TypeId} {size size' : Nat} {v v' : Value} {n n' : Nat} {xs xs' : List Value} (h : w.ownsRow B e size v n xs) (h' : w.ownsRow B' e' size' v' n' xs') (hne : e ≠ e') : v.ownBlock = none ∨ v.ownBlock ≠ v'.ownBlock := by
  rcases h.2 with ⟨rfl, _⟩ | ⟨g, cap, cur, rfl, _, hg, _⟩
  · exact .inl rfl
  · rcases h'.2 with ⟨rfl, _⟩ | ⟨g', cap', cur', rfl, _, hg', _⟩
    · exact .inr (by simp [Value.ownBlock])
    · refine .inr ?_
      simp only [Value.ownBlock, ne_eq, Option.some.injEq]
      intro e
      subst e
      rw [hg] at hg'
      simp only [Option.some.injEq, Obj.cells.injEq] at hg'
      exact hne hg'.2.1

/-- A row of places of the call's own. -/
def Pa (B : Nat) (w : World) (dv : Value) (z : List Int) : Prop := w.ownsRow B 3 1 dv z.length (z.map (Value.int .i64))
theorem Pa.one {B : Nat} {w : World} (v : Value) (z : List Int) (h : Pa B w v z) : v.oneCell' = true := (Sl.owned h).oneCell
theorem Pa.sl {B : Nat} {w : World} {v : Value} {z : List Int} (h : Pa B w v z) : Sl .i64 w v z := Sl.owned h

end Go.Proofs.Ytfniphaehggcgaa

/-
  The contract of the function that holds two lists of numbers against each other (Ints): it tells whether they are the same, and only reads.
-/
namespace Go.Proofs.Ytfniphaehggcgaa
set_option maxRecDepth 100000
open Go.RowKit

set_option maxHeartbeats 400000 in
theorem ints_any (va vb : Value) (xs ys : List Int) (w : World) (ha : Sl .i64 w va xs) (hb : Sl .i64 w vb ys) :
    Calls Try.prog 28 #[va, vb] w fun e w' => e = .returned (.bool (decide (xs = ys))) ∧ ∃ n, w' = w.drewN n := by
  obtain ⟨aa, ca, rfl, la, ma, na, oa⟩ := ha.open
  obtain ⟨ab, cb, rfl, lb, mb, nb, ob⟩ := hb.open
  clear ha hb
  by_cases hl : xs.length = ys.length
  · have HL : Hid (xs.length = ys.length) := hl
    have h0 : ((xs.length : Int) != (ys.length : Int)) = false := by simp [hl]
    clear hl
    go_enter Try.func28, Try.ntmps28
    go_wp2
    go_loopw [5] (fun i wr => ∃ k : Nat, k ≤ xs.length ∧ i = .int .i64 k ∧ xs.take k = ys.take k ∧ ∃ n, wr = w.drewN n) (fun i _ => xs.length - (intOf i).toNat)
    case atStart => exact ⟨0, Nat.zero_le _, rfl, rfl, 0, rfl⟩
    case round =>
      obtain ⟨k, hk, rfl, ht, n, rfl⟩ := hrel
      have HT : Hid (xs.take k = ys.take k) := ht
      clear ht
      by_cases hlt : k < xs.length
      · have hltb : k < ys.length := by have := HL.out; omega
        obtain ⟨ba, fa, rfl, _, ca⟩ := oa (by omega)
        obtain ⟨bb, fb, rfl, _, cb⟩ := ob (by omega)
        have c1 := ca k hlt
        have c2 := cb k hltb
        clear ca cb oa ob
        go_wp2
        go_region
        all_goals (try go_wp2)
        · have he : (xs[k] != ys[k]) = true := by assumption
          rw [bne_iff_ne] at he
          go_ret
          exact ⟨by rw [same_not HL.out hlt he]; rfl, n + 1, rfl⟩
        · have he : (xs[k] != ys[k]) = false := by assumption
          rw [bne_eq_false_iff_eq] at he
          go_roundw
          case rel => exact ⟨k + 1, by omega, by go_num, same_step HL.out hlt HT.out he, n + 1, rfl⟩
          case measure => simp [intOf]; omega
      · go_wp2
        go_ret
        exact ⟨by rw [same_end HL.out hlt HT.out]; rfl, n, rfl⟩
  · have h0 : ((xs.length : Int) != (ys.length : Int)) = true := by rw [bne_iff_ne]; omega
    go_enter Try.func28, Try.ntmps28
    go_wp2
    go_ret
    exact ⟨by rw [same_len hl]; rfl, 0, rfl⟩

theorem ints_b (va vb : Value) (xs ys : List Int) (w : World) (ha : Sl .i64 w va xs) (hb : Sl .i64 w vb ys) (r : Bool) (hr : decide (xs = ys) = r) :
    Calls Try.prog 28 #[va, vb] w fun e w' => e = .returned (.bool r) ∧ Below w.heap.size w w' :=
  (ints_any va vb xs ys w ha hb).mono fun e w' ⟨h1, n, h2⟩ => ⟨by rw [h1, hr], by rw [h2]; exact below_dr (Below.refl _ _) n⟩
end Go.Proofs.Ytfniphaehggcgaa

/-
  A slice of postings, or of numbers, cut at a place: the run of s[:m], s[m:], s[lo:hi], and what each reads as.
-/
namespace Go.Proofs.Ytfniphaehggcgaa
set_option maxRecDepth 100000
open Go.RowKit

theorem Pl.form {w : World} {v : Value} {L : List Pt} (h : Pl w v L) : ∃ a cap, v = .slice a L.length cap := by
  obtain ⟨a, cap, hv, -⟩ := h
  exact ⟨a, cap, hv⟩

/-- s[lo:hi] of postings: the run, and what it reads as. -/
theorem Pl.cut {w : World} {a : Option Addr} {cap : Nat} {L : List Pt} (h : Pl w (.slice a L.length cap) L) (lo hi : Nat) (h1 : lo ≤ hi) (h2 : hi ≤ L.length) :
    Pl w (sliced a lo hi cap 2) ((L.drop lo).take (hi - lo)) := by
  obtain ⟨a', cap', hv, hl, hmx, hn, hc⟩ := h
  simp only [Value.slice.injEq, true_and] at hv
  obtain ⟨rfl, rfl⟩ := hv
  have hlen : ((L.drop lo).take (hi - lo)).length = hi - lo := by simp; omega
  refine ⟨_, cap - lo, by simp only [sliced, hlen]; rfl, by omega, by unfold maxLen at *; omega, ?_, ?_⟩
  · intro h
    split at h
    · have := hn h; omega
    · simp at h; have := hn h; omega
  · intro x hx i f hf
    have hi' : i < hi - lo := by
      have := (List.getElem?_eq_some_iff.1 hf).1
      omega
    have hfl : L[lo + i]? = some f := by
      rw [List.getElem?_take, if_pos hi', List.getElem?_drop] at hf
      exact hf
    rw [if_neg (by omega)] at hx
    cases a with
    | none => simp at hx
    | some y =>
      obtain ⟨dv, h0, h1, h3⟩ := hc y rfl (lo + i) f hfl
      obtain ⟨b, off, spot⟩ := y
      obtain ⟨dv0, z0, -⟩ := hc _ rfl 0 L[0] (List.getElem?_eq_getElem (by omega))
      have hsp : spot = none := by simpa [Addr.add] using World.cell?_spot z0
      subst hsp
      simp [Addr.add_lit] at hx
      subst hx
      simp only [Addr.add_lit] at h0 h1 ⊢
      exact ⟨dv, by rw [← h0]; congr 2; omega, by rw [← h1]; congr 2; omega, h3⟩

theorem Sl.cut {k : IntKind} {w : World} {a : Option Addr} {cap : Nat} {L : List Int} (h : Sl k w (.slice a L.length cap) L) (lo hi : Nat) (h1 : lo ≤ hi) (h2 : hi ≤ L.length) :
    Sl k w (sliced a lo hi cap 1) ((L.drop lo).take (hi - lo)) := by
  obtain ⟨a', cap', hv, hl, hmx, hn, hc⟩ := h
  simp only [Value.slice.injEq, true_and] at hv
  obtain ⟨rfl, rfl⟩ := hv
  have hlen : ((L.drop lo).take (hi - lo)).length = hi - lo := by simp; omega
  refine ⟨_, cap - lo, by simp only [sliced, hlen]; rfl, by omega, by unfold maxLen at *; omega, ?_, ?_⟩
  · intro h
    split at h
    · have := hn h; omega
    · simp at h; have := hn h; omega
  · intro x hx i hi0
    have hi' : i < hi - lo := by omega
    rw [if_neg (by omega)] at hx
    cases a with
    | none => simp at hx
    | some y =>
      have h0 := hc y rfl (lo + i) (by omega)
      obtain ⟨b, off, spot⟩ := y
      have z0 := hc _ rfl 0 (by omega)
      have hsp : spot = none := by simpa [Addr.add] using World.cell?_spot z0
      subst hsp
      simp [Addr.add_lit] at hx
      subst hx
      simp only [Addr.add_lit] at h0 ⊢
      rw [show off + lo + i = off + (lo + i) by omega, h0]
      simp [List.getD, hi']

theorem run_sl_from (a : Option Addr) (n cap m : Nat) (hm : m ≤ n) (w : World) :
    (Instr.slice 47 (.slice a n cap) (some (.int .i64 m)) none none).run Try.prog w = .ok (sliced a m n cap 1) w := by
  have hs : ∀ w : World, (sizeOf (Try.prog.elem 47)).run Try.prog w = .ok 1 w := fun w => by kernel_rfl
  rw [run_slice_l w 47 _ n cap (by kernel_rfl) .i64 m (by omega) (by omega), hs]
  simp [Result.andThen]

theorem drop_take_all {α : Type} (L : List α) (m : Nat) : (L.drop m).take (L.length - m) = L.drop m := List.take_of_length_le (by simp)
end Go.Proofs.Ytfniphaehggcgaa
