/-
  Texts put together: Same, Help, PBase, Cut6, Plain6.
-/
import Derived.Test.YtefnkbgkcjhkoaaRows
import Derived.Test.YtefnkbgkcjhkoaaQ03
import Derived.Deep.QuietTactic
import Derived.BigQuiet
import Derived.Test.YtefnkbgkcjhkoaaQ05
import Derived.Test.YtefnkbgkcjhkoaaQ01
/-
  The contract of the function that holds two rows of bytes against each other (Bytes): it tells whether they are the same, and only reads.
-/
namespace Go.Proofs.Ytefnkbgkcjhkoaa
set_option maxRecDepth 100000
open Go.RowKit

theorem take_snoc (l : List Int) (k : Nat) (h : k < l.length) : l.take (k + 1) = l.take k ++ [l[k]] := by
  rw [List.take_succ_eq_append_getElem h]

theorem same_step {xs ys : List Int} {k : Nat} (hl : xs.length = ys.length) (hk : k < xs.length) (h : xs.take k = ys.take k) (he : xs[k] = ys[k]'(by omega)) : xs.take (k + 1) = ys.take (k + 1) := by
  rw [take_snoc xs k hk, take_snoc ys k (by omega), h, he]

theorem same_end {xs ys : List Int} {k : Nat} (hl : xs.length = ys.length) (hk : ¬ k < xs.length) (h : xs.take k = ys.take k) : decide (xs = ys) = true := by
  rw [List.take_of_length_le (by omega), List.take_of_length_le (by omega)] at h
  simpa using h

theorem same_not {xs ys : List Int} {k : Nat} (hl : xs.length = ys.length) (hk : k < xs.length) (he : ¬ xs[k] = ys[k]'(by omega)) : decide (xs = ys) = false := by
  apply decide_eq_false
  intro h
  subst h
  exact he rfl

theorem same_len {xs ys : List Int} (hl : ¬ xs.length = ys.length) : decide (xs = ys) = false := by
  apply decide_eq_false
  intro h
  subst h
  exact hl rfl

end Go.Proofs.Ytefnkbgkcjhkoaa

/-
  Small steps that every walk over slices of bytes takes: worlds one behind the other, and the contracts of Get and Bytes with the answer named.
-/
namespace Go.Proofs.Ytefnkbgkcjhkoaa
set_option maxRecDepth 100000
open Go.RowKit

theorem hide {p : Prop} (h : p) : Hid p := h
theorem unhide {p : Prop} (h : Hid p) : p := h

theorem byt_of {l : List Int} (h : l.all (fun c => decide (0 ≤ c ∧ c ≤ 255)) = true) : V.Byt l := fun c hc => by simpa using List.all_eq_true.1 h c hc

theorem below_all {w w1 : World} (h : Below w.heap.size w w1) (o : Obj) : Below w.heap.size w (w1.alloc o) := h.alloc h.size o
theorem below_dr {w w1 : World} (h : Below w.heap.size w w1) (n : Nat) : Below w.heap.size w (w1.drewN n) := ⟨h.os, h.tape, h.output, h.size, h.block⟩

end Go.Proofs.Ytefnkbgkcjhkoaa

/-
  Plain facts on slices of postings as the walks need them: what a slice of postings reads as ('Pl'), and that this stays behind draws and new memory; rows of postings of the call's own. No function of the program is named here.
-/
namespace Go.Proofs.Ytefnkbgkcjhkoaa
set_option maxRecDepth 100000
open Go.RowKit

/-- A posting, as it reads. -/
structure Pt where
  d : Int
  a : List Int

theorem Pt.eq {p q : Pt} (h1 : p.d = q.d) (h2 : p.a = q.a) : p = q := by
  cases p
  cases q
  simp at h1 h2
  subst h1
  subst h2
  rfl

/-- Are two postings, two lists of them, the same? -/
def Pt.eqb (f g : Pt) : Bool := decide (f.d = g.d) && decide (f.a = g.a)
def Pt.eqs : List Pt → List Pt → Bool
  | [], [] => true
  | f :: L, g :: M => Pt.eqb f g && Pt.eqs L M
  | _, _ => false
theorem Pt.eqb_iff {f g : Pt} : Pt.eqb f g = true ↔ f = g := by
  cases f
  cases g
  simp [Pt.eqb]
theorem Pt.eqs_iff : ∀ {L M : List Pt}, Pt.eqs L M = true ↔ L = M
  | [], [] => by simp [Pt.eqs]
  | [], _ :: _ => by simp [Pt.eqs]
  | _ :: _, [] => by simp [Pt.eqs]
  | f :: L, g :: M => by simp [Pt.eqs, Pt.eqb_iff, Pt.eqs_iff]
theorem Pt.eqs_refl (L : List Pt) : Pt.eqs L L = true := Pt.eqs_iff.2 rfl
theorem Pt.eqb_not {f g : Pt} (h : ¬ f = g) : Pt.eqb f g = false := by rw [← Bool.not_eq_true, Pt.eqb_iff]; exact h
theorem Pt.eqs_not {L M : List Pt} (h : ¬ L = M) : Pt.eqs L M = false := by rw [← Bool.not_eq_true, Pt.eqs_iff]; exact h
theorem Pt.eqs_comm (L M : List Pt) : Pt.eqs L M = Pt.eqs M L := by
  by_cases h : L = M
  · rw [h]
  · rw [Pt.eqs_not h, Pt.eqs_not (fun e => h e.symm)]

theorem below_set {w w1 : World} (h : Below w.heap.size w w1) {p : Addr} (hp : w.heap.size ≤ p.block) (u : Value) : Below w.heap.size w (w1.setCell p u) := h.setCell hp u
theorem below_dr' {B : Nat} {w w1 : World} (h : Below B w w1) (n : Nat) : Below B w (w1.drewN n) := ⟨h.os, h.tape, h.output, h.size, h.block⟩

/-- The slice value v reads, in w, as the postings L. -/
def Pl (w : World) (v : Value) (L : List Pt) : Prop :=
  ∃ a cap, v = .slice a L.length cap ∧ L.length ≤ cap ∧ cap ≤ maxLen ∧ (a = none → cap = 0) ∧
    ∀ x, a = some x → ∀ i p, L[i]? = some p → ∃ dv, w.cell? (x.add (i * 2)) = some (.int .i64 p.d) ∧ w.cell? (x.add (i * 2 + 1)) = some dv ∧ Sl .i64 w dv p.a

theorem Pl.nil (w : World) : Pl w (.slice none 0 0) [] := ⟨none, 0, rfl, Nat.le_refl _, Nat.zero_le _, fun _ => rfl, fun _ h => by cases h⟩

theorem Pl.below {w w' : World} {v : Value} {L : List Pt} (h : Pl w v L) (hb : Below w.heap.size w w') : Pl w' v L := by
  obtain ⟨a, cap, hv, hl, hm, hn, hc⟩ := h
  refine ⟨a, cap, hv, hl, hm, hn, fun x hx i f hi => ?_⟩
  obtain ⟨dv, h0, h1, h3⟩ := hc x hx i f hi
  exact ⟨dv, by rw [hb.cell (World.block_lt_of_cell? w _ h0)]; exact h0, by rw [hb.cell (World.block_lt_of_cell? w _ h1)]; exact h1, h3.below hb⟩

theorem Pl.drewN {w : World} {v : Value} {L : List Pt} (h : Pl w v L) (n : Nat) : Pl (w.drewN n) v L := h

theorem Pl.len {w : World} {v : Value} {L : List Pt} (h : Pl w v L) : L.length ≤ 9223372036854775807 := by
  obtain ⟨a, cap, _, hl, hm, _⟩ := h
  unfold maxLen at hm
  omega

/-- As it is used: the value, written out; where there is an element, a block and a place in it. -/
theorem Pl.open {w : World} {v : Value} {L : List Pt} (h : Pl w v L) :
    ∃ a cap, v = .slice a L.length cap ∧ L.length ≤ cap ∧ cap ≤ 9223372036854775807 ∧ (a = none → cap = 0) ∧
      (0 < L.length → ∃ b off, a = some ⟨b, off, none⟩ ∧ b < w.heap.size ∧ ∀ i p, L[i]? = some p → ∃ da dc, w.cell? ⟨b, off + i * 2, none⟩ = some (.int .i64 p.d) ∧ w.cell? ⟨b, off + i * 2 + 1, none⟩ = some (.slice da p.a.length dc) ∧
        Sl .i64 w (.slice da p.a.length dc) p.a) := by
  obtain ⟨a, cap, hv, hl, hm, hn, hc⟩ := h
  refine ⟨a, cap, hv, hl, hm, hn, fun hp => ?_⟩
  cases a with
  | none => have := hn rfl; omega
  | some x =>
    obtain ⟨b, off, spot⟩ := x
    obtain ⟨f0, hf0⟩ : ∃ f, L[0]? = some f := ⟨L[0], List.getElem?_eq_getElem hp⟩
    obtain ⟨dv, h0, _⟩ := hc _ rfl 0 f0 hf0
    have hs : spot = none := by simpa [Addr.add] using World.cell?_spot h0
    subst hs
    refine ⟨b, off, rfl, by simpa [Addr.add] using World.block_lt_of_cell? w _ h0, fun i f hf => ?_⟩
    obtain ⟨dv, g0, g1, g3⟩ := hc _ rfl i f hf
    simp only [Addr.add_lit] at g0 g1
    obtain ⟨da, dc, rfl, r⟩ := id g3
    exact ⟨da, dc, g0, by rw [Nat.add_assoc]; exact g1, g3⟩

/-- The two cells of each posting, one behind the other; Q: what the places are. -/
def PCp (Q : Value → List Int → Prop) : List Value → List Pt → Prop
  | [], [] => True
  | a :: b :: cs, f :: L => a = .int .i64 f.d ∧ Q b f.a ∧ PCp Q cs L
  | _, _ => False
abbrev PC (w : World) : List Value → List Pt → Prop := PCp (Sl .i64 w)

theorem PCp.len {Q : Value → List Int → Prop} : ∀ {cs : List Value} {L : List Pt}, PCp Q cs L → cs.length = L.length * 2
  | [], [], _ => rfl
  | a :: b :: cs, f :: L, h => by have := PCp.len h.2.2; simp only [List.length_cons]; omega
  | [], _ :: _, h => h.elim
  | [_], _ :: _, h => h.elim
  | _ :: _, [], h => by simp [PCp] at h

theorem PCp.append {Q : Value → List Int → Prop} : ∀ {cs ds : List Value} {L M : List Pt}, PCp Q cs L → PCp Q ds M → PCp Q (cs ++ ds) (L ++ M)
  | [], _, [], _, _, h => h
  | a :: b :: cs, _, f :: L, _, h, k => ⟨h.1, h.2.1, PCp.append h.2.2 k⟩
  | [], _, _ :: _, _, h, _ => h.elim
  | [_], _, _ :: _, _, h, _ => h.elim
  | _ :: _, _, [], _, h, _ => by simp [PCp] at h

theorem PCp.turn {Q Q' : Value → List Int → Prop} (hw : ∀ v z, Q v z → Q' v z) : ∀ {cs : List Value} {L : List Pt}, PCp Q cs L → PCp Q' cs L
  | [], [], _ => trivial
  | a :: b :: cs, f :: L, h => ⟨h.1, hw _ _ h.2.1, PCp.turn hw h.2.2⟩
  | [], _ :: _, h => h.elim
  | [_], _ :: _, h => h.elim
  | _ :: _, [], h => by simp [PCp] at h

theorem PCp.below {w w' : World} {cs : List Value} {L : List Pt} (h : PC w cs L) (hb : Below w.heap.size w w') : PC w' cs L := h.turn fun _ _ h => h.below hb

theorem PCp.at {Q : Value → List Int → Prop} : ∀ {cs : List Value} {L : List Pt}, PCp Q cs L → ∀ i f, L[i]? = some f → ∃ dv, cs[i * 2]? = some (.int .i64 f.d) ∧ cs[i * 2 + 1]? = some dv ∧ Q dv f.a
  | [], [], _, i, f, hf => by simp at hf
  | a :: b :: cs, g :: L, h, i, f, hf => by
    cases i with
    | zero =>
      simp at hf
      subst hf
      exact ⟨b, by simp [h.1], by simp, h.2.1⟩
    | succ i =>
      obtain ⟨dv, h0, h1, h3⟩ := PCp.at h.2.2 i f (by simpa using hf)
      have e0 : (i + 1) * 2 = i * 2 + 1 + 1 := by omega
      exact ⟨dv, by rw [e0]; simpa using h0, by rw [e0]; simpa using h1, h3⟩
  | [], _ :: _, h, _, _, _ => h.elim
  | [_], _ :: _, h, _, _, _ => h.elim
  | _ :: _, [], h, _, _, _ => by simp [PCp] at h

/-- The postings from the i-th on, and those ahead of it. -/
theorem PCp.take {Q : Value → List Int → Prop} : ∀ {cs : List Value} {L : List Pt}, PCp Q cs L → ∀ i, PCp Q (cs.take (i * 2)) (L.take i)
  | [], [], _, i => by simp [PCp]
  | a :: b :: cs, g :: L, h, i => by
    cases i with
    | zero => simp [PCp]
    | succ i =>
      rw [show (i + 1) * 2 = i * 2 + 1 + 1 by omega]
      simp only [List.take_succ_cons]
      exact ⟨h.1, h.2.1, PCp.take h.2.2 i⟩
  | [], _ :: _, h, _ => h.elim
  | [_], _ :: _, h, _ => h.elim
  | _ :: _, [], h, _ => by simp [PCp] at h
theorem PCp.drop {Q : Value → List Int → Prop} : ∀ {cs : List Value} {L : List Pt}, PCp Q cs L → ∀ i, PCp Q (cs.drop (i * 2)) (L.drop i)
  | [], [], _, i => by simp [PCp]
  | a :: b :: cs, g :: L, h, i => by
    cases i with
    | zero => simpa using h
    | succ i =>
      rw [show (i + 1) * 2 = i * 2 + 1 + 1 by omega]
      simp only [List.drop_succ_cons]
      exact PCp.drop h.2.2 i
  | [], _ :: _, h, _ => h.elim
  | [_], _ :: _, h, _ => h.elim
  | _ :: _, [], h, _ => by simp [PCp] at h

/-- The slice value v is a row of the call's own, from block B on, that holds the postings L; their places are read in w0. -/
def PO (B : Nat) (w0 w : World) (v : Value) (L : List Pt) : Prop := ∃ cs, w.ownsRow B 99 2 v L.length cs ∧ PC w0 cs L

theorem PO.nil (B : Nat) (w0 w : World) : PO B w0 w (.slice none 0 0) [] := ⟨[], World.ownsRow_nil _ _ _ _, trivial⟩

theorem pl_of {B : Nat} {w : World} {v : Value} {L : List Pt} {cs : List Value} (ho : w.ownsRow B 99 2 v L.length cs) (hc : PC w cs L) : Pl w v L := by
  rcases id ho.2 with ⟨rfl, h0⟩ | ⟨g, cap, cur, rfl, hb, hg, hn, hm, _⟩
  · have : L = [] := List.eq_nil_of_length_eq_zero h0
    subst this
    exact Pl.nil w
  · refine ⟨_, cap, rfl, hn, hm, (fun h => by cases h), fun x hx i f hi => ?_⟩
    obtain rfl := Option.some.inj hx
    obtain ⟨dv, h0, h1, h3⟩ := hc.at i f hi
    exact ⟨dv, ho.cells (g := g) rfl _ _ h0, ho.cells (g := g) rfl _ _ h1, h3⟩

theorem PO.pl {B : Nat} {w0 w : World} {v : Value} {L : List Pt} (h : PO B w0 w v L) (hs : ∀ v z, Sl .i64 w0 v z → Sl .i64 w v z) : Pl w v L := by
  obtain ⟨cs, ho, hc⟩ := h
  exact pl_of ho (hc.turn hs)

theorem PO.alloc {B : Nat} {w0 w : World} {v : Value} {L : List Pt} (h : PO B w0 w v L) (o : Obj) : PO B w0 (w.alloc o) v L := by
  obtain ⟨cs, ho, hc⟩ := h
  exact ⟨cs, ho.alloc o, hc⟩

theorem Try.infoP : (Try.prog.info? 99).map (fun i => (i.zero, i.size, i.bytes)) = some (some (.agg #[.int .i64 0, .slice none 0 0]), 2, 32) := by kernel_rfl

theorem PCp.one {Q : Value → List Int → Prop} {dv : Value} {f : Pt} (h : Q dv f.a) : PCp Q [.int .i64 f.d, dv] [f] := ⟨rfl, h, trivial⟩

theorem Sl.oneCell {k : IntKind} {w : World} {v : Value} {zs : List Int} (h : Sl k w v zs) : v.oneCell' = true := by
  obtain ⟨a, cap, rfl, _⟩ := h
  rfl

theorem PCp.ones {Q : Value → List Int → Prop} (hq : ∀ v z, Q v z → v.oneCell' = true) : ∀ {cs : List Value} {L : List Pt}, PCp Q cs L → ∀ u ∈ cs, u.oneCell' = true
  | [], [], _, u, hu => by simp at hu
  | a :: b :: cs, g :: L, h, u, hu => by
    simp only [List.mem_cons] at hu
    rcases hu with rfl | rfl | hu
    · rw [h.1]; rfl
    · exact hq _ _ h.2.1
    · exact PCp.ones hq h.2.2 u hu
  | [], _ :: _, h, _, _ => h.elim
  | [_], _ :: _, h, _, _ => h.elim
  | _ :: _, [], h, _, _ => by simp [PCp] at h

/-- 'out = append(out, p)', out a row of postings that the call itself made; Q: what the places are. -/
theorem append_post_p {Q : Value → List Int → Prop} (hq : ∀ v z, Q v z → v.oneCell' = true) {ops : Array Oper} {rest : List Oper} {o : Oper} {a : Act} {Q' : Exit → Act → World → Prop} {wr : World} (hgd : o.guard = none) (s x : Operand)
    (ho : o.op = .call { callee := .builtin .append, args := #[s, x], argTypes := #[77, 77] }) {B : Nat} {pre : List Pt} {v : Value} {f : Pt} {dv : Value} {cs : List Value} (hs : a.eval s = v) {n : Nat} (hx : a.eval x = .slice (some ⟨n, 0, none⟩) 1 1) (hn : n = wr.heap.size)
    (hc1 : wr.ownsRow B 99 2 v pre.length cs) (hc2 : PCp Q cs pre) (hf : Q dv f.a) (hB : B ≤ wr.heap.size) (hlen : pre.length ≤ 4294967296)
    (h : ∀ v' w' cs', w'.ownsRow B 99 2 v' (pre ++ [f]).length cs' → PCp Q cs' (pre ++ [f]) → wr.grownBy w' v.ownBlock → cs' = cs ++ [.int .i64 f.d, dv] → wpList Try.prog ops Q' rest (a.put o.dst v') w') :
    wpList Try.prog ops Q' (o :: rest) a (wr.alloc (.cells #[.int .i64 f.d, dv] 99)) := by
  obtain ⟨i0, hi, hz0, hz1, hz2⟩ := info_parts Try.infoP
  subst hn
  refine wpList_append_own _ hgd s x _ ho B 99 i0 _ 2 32 Try.underlying77 hi hz0 hz1 hz2 rfl (by decide) v pre.length _ hs (hc1.alloc _) ⟨wr.heap.size, 0, none⟩ 1 1 [.int .i64 f.d, dv] hx rfl ?_ (PCp.ones hq (PCp.one hf)) ?_ ?_ ?_ ?_
  · intro j u hj
    match j, hj with
    | 0, hj => simp at hj; subst hj; simp [Addr.add]
    | 1, hj => simp at hj; subst hj; simp [Addr.add]
  · unfold maxLen; omega
  · omega
  · simp; omega
  · intro v' w1 hown' hg _
    exact h v' w1 _ (by simpa using hown') (hc2.append (PCp.one hf)) ((World.grownBy_alloc _ _ _).trans hg) rfl

/-- 'out = append(out, p)', out a row of postings that the call itself made. -/
theorem append_post {ops : Array Oper} {rest : List Oper} {o : Oper} {a : Act} {Q : Exit → Act → World → Prop} {w0 wr : World} (hgd : o.guard = none) (s x : Operand)
    (ho : o.op = .call { callee := .builtin .append, args := #[s, x], argTypes := #[77, 77] }) {B : Nat} {pre : List Pt} {v : Value} {f : Pt} {dv : Value} (hs : a.eval s = v) {n : Nat} (hx : a.eval x = .slice (some ⟨n, 0, none⟩) 1 1) (hn : n = wr.heap.size)
    (hown : PO B w0 wr v pre) (hf : Sl .i64 w0 dv f.a) (hbel : Below B w0 wr) (hB : B ≤ wr.heap.size) (hlen : pre.length ≤ 4294967296)
    (h : ∀ v' w', PO B w0 w' v' (pre ++ [f]) → Below B w0 w' → wr.grownBy w' v.ownBlock → wpList Try.prog ops Q rest (a.put o.dst v') w') :
    wpList Try.prog ops Q (o :: rest) a (wr.alloc (.cells #[.int .i64 f.d, dv] 99)) := by
  obtain ⟨cs, hc1, hc2⟩ := hown
  refine append_post_p (fun _ _ h => Sl.oneCell h) hgd s x ho hs hx hn hc1 hc2 hf hB hlen ?_
  intro v' w' cs' h1 h2 h3 _
  exact h v' w' ⟨cs', h1, h2⟩ (hbel.grown h3 hB (fun j hj => (hc1.lt j hj).1)) h3

/-- The cells of postings that a slice holds, as a list. -/
theorem Pl.cells {w : World} {x : Addr} : ∀ {L : List Pt} (o : Nat), (∀ i f, L[i]? = some f → ∃ dv, w.cell? (x.add ((o + i) * 2)) = some (.int .i64 f.d) ∧ w.cell? (x.add ((o + i) * 2 + 1)) = some dv ∧ Sl .i64 w dv f.a) →
    ∃ cs, PC w cs L ∧ ∀ j u, cs[j]? = some u → w.cell? (x.add (o * 2 + j)) = some u
  | [], _, _ => ⟨[], trivial, fun j u h => by simp at h⟩
  | f :: L, o, h => by
    obtain ⟨dv, h0, h1, h3⟩ := h 0 f rfl
    obtain ⟨cs, hc, hj⟩ := Pl.cells (L := L) (o + 1) fun i g hg => by
      have := h (i + 1) g (by simpa using hg)
      rw [show o + 1 + i = o + (i + 1) by omega]
      exact this
    refine ⟨.int .i64 f.d :: dv :: cs, ⟨rfl, h3, hc⟩, fun j u hu => ?_⟩
    match j, hu with
    | 0, hu => simp at hu; subst hu; simpa using h0
    | 1, hu => simp at hu; subst hu; simpa using h1
    | j + 2, hu =>
      have := hj j u (by simpa using hu)
      rw [show o * 2 + (j + 2) = (o + 1) * 2 + j by omega]
      exact this

/-- 'out = append(out, xs...)', out a row of postings that the call itself made, xs whatever slice of postings, read in wx, which wr stands behind. -/
theorem append_posts_p {Q : Value → List Int → Prop} {ops : Array Oper} {rest : List Oper} {o : Oper} {a : Act} {Q' : Exit → Act → World → Prop} {wr : World} (hgd : o.guard = none) (s x : Operand)
    (ho : o.op = .call { callee := .builtin .append, args := #[s, x], argTypes := #[77, 77] }) {B : Nat} {pre L : List Pt} {v u : Value} {cs : List Value} (hs : a.eval s = v) (hx : a.eval x = u)
    (hu : Pl wr u L) (hQ : ∀ v z, Sl .i64 wr v z → Q v z) (hc1 : wr.ownsRow B 99 2 v pre.length cs) (hc2 : PCp Q cs pre) (hB : B ≤ wr.heap.size) (hlen : pre.length + L.length ≤ 4294967296)
    (h : ∀ v' w' cs', w'.ownsRow B 99 2 v' (pre ++ L).length cs' → PCp Q cs' (pre ++ L) → wr.grownBy w' v.ownBlock → wpList Try.prog ops Q' rest (a.put o.dst v') w') :
    wpList Try.prog ops Q' (o :: rest) a wr := by
  obtain ⟨i0, hi, hz0, hz1, hz2⟩ := info_parts Try.infoP
  obtain ⟨ao, cap, rfl, hl, hm, hn, hc⟩ := hu
  cases ao with
  | none =>
    have hcap := hn rfl
    subst hcap
    have hz0 : L = [] := List.eq_nil_of_length_eq_zero (by omega)
    subst hz0
    refine wpList_append_own_none hgd s x _ ho B 99 i0 2 Try.underlying77 hi v pre.length _ hs hc1 hx ?_
    exact h v wr cs (by simpa using hc1) (by simpa using hc2) ⟨rfl, rfl, rfl, Nat.le_refl _, fun _ _ _ => rfl⟩
  | some ad =>
    obtain ⟨ds, hd, hdj⟩ := Pl.cells (w := wr) (x := ad) (L := L) 0 fun i f hf => by simpa using hc ad rfl i f hf
    refine wpList_append_own _ hgd s x _ ho B 99 i0 _ 2 32 Try.underlying77 hi hz0 hz1 hz2 rfl (by decide) v pre.length _ hs hc1 ad L.length cap ds hx hd.len ?_ (PCp.ones (fun _ _ h => Sl.oneCell h) hd) ?_ ?_ hB ?_
    · intro j y hj
      have h0 := hdj j y hj
      simpa using h0
    · unfold maxLen; omega
    · omega
    · intro v' w1 hown' hg _
      exact h v' w1 _ (by simpa using hown') (hc2.append (hd.turn hQ)) hg

/-- The same, all that was there read at the call's beginning. -/
theorem append_posts {ops : Array Oper} {rest : List Oper} {o : Oper} {a : Act} {Q : Exit → Act → World → Prop} {w0 wr : World} (hgd : o.guard = none) (s x : Operand)
    (ho : o.op = .call { callee := .builtin .append, args := #[s, x], argTypes := #[77, 77] }) {B : Nat} {pre L : List Pt} {v u : Value} (hs : a.eval s = v) (hx : a.eval x = u)
    (hu : Pl w0 u L) (hown : PO B w0 wr v pre) (hbel : Below B w0 wr) (hw0 : w0.heap.size ≤ B) (hB : B ≤ wr.heap.size) (hlen : pre.length + L.length ≤ 4294967296)
    (h : ∀ v' w', PO B w0 w' v' (pre ++ L) → Below B w0 w' → wpList Try.prog ops Q rest (a.put o.dst v') w') :
    wpList Try.prog ops Q (o :: rest) a wr := by
  obtain ⟨i0, hi, hz0, hz1, hz2⟩ := info_parts Try.infoP
  obtain ⟨cs, hc1, hc2⟩ := hown
  obtain ⟨ao, cap, rfl, hl, hm, hn, hc⟩ := hu
  cases ao with
  | none =>
    have hcap := hn rfl
    subst hcap
    have hz0 : L = [] := List.eq_nil_of_length_eq_zero (by omega)
    subst hz0
    refine wpList_append_own_none hgd s x _ ho B 99 i0 2 Try.underlying77 hi v pre.length _ hs hc1 hx ?_
    exact h v wr ⟨cs, by simpa using hc1, by simpa using hc2⟩ hbel
  | some ad =>
    obtain ⟨ds, hd, hdj⟩ := Pl.cells (w := w0) (x := ad) (L := L) 0 fun i f hf => by simpa using hc ad rfl i f hf
    refine wpList_append_own _ hgd s x _ ho B 99 i0 _ 2 32 Try.underlying77 hi hz0 hz1 hz2 rfl (by decide) v pre.length _ hs hc1 ad L.length cap ds hx hd.len ?_ (PCp.ones (fun _ _ h => Sl.oneCell h) hd) ?_ ?_ hB ?_
    · intro j y hj
      have h0 := hdj j y hj
      simp only [Nat.zero_mul, Nat.zero_add] at h0
      rw [hbel.cell (Nat.lt_of_lt_of_le (World.block_lt_of_cell? w0 _ h0) hw0)]
      exact h0
    · unfold maxLen; omega
    · omega
    · intro v' w1 hown' hg _
      exact h v' w1 ⟨_, by simpa using hown', hc2.append hd⟩ (hbel.grown hg hB (fun j hj => (hc1.lt j hj).1))

/-- The postings from lo on, m of them. -/
theorem Pl.sub {w : World} {b off n cap : Nat} {L : List Pt} (h : Pl w (.slice (some ⟨b, off, none⟩) n cap) L) (lo m : Nat) (hm : lo + m ≤ n) :
    Pl w (.slice (some ⟨b, off + lo * 2, none⟩) m (cap - lo)) ((L.drop lo).take m) := by
  obtain ⟨a', cap', hv, hl, hm', hn, hc⟩ := h
  simp only [Value.slice.injEq] at hv
  obtain ⟨rfl, rfl, rfl⟩ := hv
  have hlen : ((L.drop lo).take m).length = m := by simp; omega
  refine ⟨_, cap - lo, by rw [hlen], by omega, by unfold maxLen at *; omega, (fun h => by cases h), fun x hx i p hi => ?_⟩
  obtain rfl := Option.some.inj hx
  have hij : i < m := by have := (List.getElem?_eq_some_iff.1 hi).1; omega
  have hi' : L[lo + i]? = some p := by
    rw [List.getElem?_take, if_pos hij, List.getElem?_drop] at hi
    exact hi
  obtain ⟨dv, h0, h1, h2⟩ := hc _ rfl (lo + i) p hi'
  rw [Addr.add_lit] at h0 h1
  refine ⟨dv, ?_, ?_, h2⟩
  · rw [Addr.add_lit, show off + lo * 2 + i * 2 = off + (lo + i) * 2 by omega]; exact h0
  · rw [Addr.add_lit, show off + lo * 2 + (i * 2 + 1) = off + ((lo + i) * 2 + 1) by omega]; exact h1

/-- No posting at all. -/
theorem Pl.zero {w : World} {a : Option Addr} {cap : Nat} (hm : cap ≤ maxLen) (hn : a = none → cap = 0) : Pl w (.slice a 0 cap) [] :=
  ⟨a, cap, rfl, Nat.zero_le _, hm, hn, fun _ _ i p h => by simp at h⟩

/-- A region that draws its order, and calls what makes memory, but answers the same in every world that has grown: walked once, in the order of the text. -/
theorem region_below {P : Program} {id : Nat} {Q : Exit → Act → World → Prop} {a : Act} {w : World} {l : List Oper} (hm : P.follows .mixedOrders = true) (hB : Region.lexB .any l.toArray = true)
    (h : wpQuiet P l.toArray (fun w' => Below w.heap.size w w') (fun a' => ∀ w', Below w.heap.size w w' → Q .normal a' w') l a) : (Code.region id l.toArray true).wp P Q a w :=
  wp_region_quiet (C := fun w' => Below w.heap.size w w') hm hB (Below.refl w.heap.size w).drew (by simpa using h)

theorem cell_keep {w w' : World} {a : Addr} {v : Value} (h : w.cell? a = some v) (hb : Below w.heap.size w w') : w'.cell? a = some v := (hb.cell (World.block_lt_of_cell? w a h)).trans h

/-! ### Rows of the call's own, side by side -/

theorem grown_set (w : World) (p : Addr) (u : Value) : w.grownBy (w.setCell p u) (some p.block) :=
  ⟨rfl, rfl, rfl, by have := ((Below.refl 0 w).setCell (p := p) (Nat.zero_le _) u).size; exact this, fun k _ hk => Below.heap_setCell w p u k (fun e => hk (by rw [e]))⟩

theorem grown_below {w w' : World} (h : Below w.heap.size w w') (row : Option Nat) : w.grownBy w' row := ⟨h.os, h.tape, h.output, h.size, fun k hk _ => h.block k hk⟩

theorem below_of_grown {w w' : World} {g B : Nat} (h : w.grownBy w' (some g)) (hg : B ≤ g) (hB : B ≤ w.heap.size) : Below B w w' :=
  ⟨h.os, h.tape, h.output, h.size, fun k hk => h.block k (by omega) (fun e => by simp at e; omega)⟩

theorem own_set {w : World} {B : Nat} {e : TypeId} {size : Nat} {v : Value} {n : Nat} {xs : List Value} (h : w.ownsRow B e size v n xs) {p : Addr} (hp : ∀ k, v.ownBlock = some k → k ≠ p.block) (u : Value) : (w.setCell p u).ownsRow B e size v n xs := by
  refine h.kept (grown_set w p u) ?_
  cases hv : v.ownBlock with
  | none => exact .inl rfl
  | some k => exact .inr fun e => hp k hv (Option.some.inj e)

theorem own_apart {w : World} {B B' : Nat} {e e' : TypeId} {size size' : Nat} {v v' : Value} {n n' : Nat} {xs xs' : List Value} (h : w.ownsRow B e size v n xs) (h' : w.ownsRow B' e' size' v' n' xs') (hne : e ≠ e') : v.ownBlock = none ∨ v.ownBlock ≠ v'.ownBlock := by
  rcases h.2 with ⟨rfl, _⟩ | ⟨g, cap, cur, rfl, _, hg, _⟩
  · exact .inl rfl
  · rcases h'.2 with ⟨rfl, _⟩ | ⟨g', cap', cur', rfl, _, hg', _⟩
    · exact .inr (by simp [Value.ownBlock])
    · refine .inr ?_
      simp only [Value.ownBlock, ne_eq, Option.some.injEq]
      intro e
      subst e
      rw [hg] at hg'
      simp only [Option.some.injEq, Obj.cells.injEq] at hg'
      exact hne hg'.2.1

/-- A row of places of the call's own. -/
def Pa (B : Nat) (w : World) (dv : Value) (z : List Int) : Prop := w.ownsRow B 3 1 dv z.length (z.map (Value.int .i64))
theorem Pa.one {B : Nat} {w : World} (v : Value) (z : List Int) (h : Pa B w v z) : v.oneCell' = true := (Sl.owned h).oneCell
theorem Pa.sl {B : Nat} {w : World} {v : Value} {z : List Int} (h : Pa B w v z) : Sl .i64 w v z := Sl.owned h

end Go.Proofs.Ytefnkbgkcjhkoaa

/-
  A slice of postings, or of numbers, cut at a place: the run of s[:m], s[m:], s[lo:hi], and what each reads as.
-/
namespace Go.Proofs.Ytefnkbgkcjhkoaa
set_option maxRecDepth 100000
open Go.RowKit

theorem Pl.form {w : World} {v : Value} {L : List Pt} (h : Pl w v L) : ∃ a cap, v = .slice a L.length cap := by
  obtain ⟨a, cap, hv, -⟩ := h
  exact ⟨a, cap, hv⟩

/-- s[lo:hi] of postings: the run, and what it reads as. -/
theorem Pl.cut {w : World} {a : Option Addr} {cap : Nat} {L : List Pt} (h : Pl w (.slice a L.length cap) L) (lo hi : Nat) (h1 : lo ≤ hi) (h2 : hi ≤ L.length) :
    Pl w (sliced a lo hi cap 2) ((L.drop lo).take (hi - lo)) := by
  obtain ⟨a', cap', hv, hl, hmx, hn, hc⟩ := h
  simp only [Value.slice.injEq, true_and] at hv
  obtain ⟨rfl, rfl⟩ := hv
  have hlen : ((L.drop lo).take (hi - lo)).length = hi - lo := by simp; omega
  refine ⟨_, cap - lo, by simp only [sliced, hlen]; rfl, by omega, by unfold maxLen at *; omega, ?_, ?_⟩
  · intro h
    split at h
    · have := hn h; omega
    · simp at h; have := hn h; omega
  · intro x hx i f hf
    have hi' : i < hi - lo := by
      have := (List.getElem?_eq_some_iff.1 hf).1
      omega
    have hfl : L[lo + i]? = some f := by
      rw [List.getElem?_take, if_pos hi', List.getElem?_drop] at hf
      exact hf
    rw [if_neg (by omega)] at hx
    cases a with
    | none => simp at hx
    | some y =>
      obtain ⟨dv, h0, h1, h3⟩ := hc y rfl (lo + i) f hfl
      obtain ⟨b, off, spot⟩ := y
      obtain ⟨dv0, z0, -⟩ := hc _ rfl 0 L[0] (List.getElem?_eq_getElem (by omega))
      have hsp : spot = none := by simpa [Addr.add] using World.cell?_spot z0
      subst hsp
      simp [Addr.add_lit] at hx
      subst hx
      simp only [Addr.add_lit] at h0 h1 ⊢
      exact ⟨dv, by rw [← h0]; congr 2; omega, by rw [← h1]; congr 2; omega, h3⟩

theorem Sl.cut {k : IntKind} {w : World} {a : Option Addr} {cap : Nat} {L : List Int} (h : Sl k w (.slice a L.length cap) L) (lo hi : Nat) (h1 : lo ≤ hi) (h2 : hi ≤ L.length) :
    Sl k w (sliced a lo hi cap 1) ((L.drop lo).take (hi - lo)) := by
  obtain ⟨a', cap', hv, hl, hmx, hn, hc⟩ := h
  simp only [Value.slice.injEq, true_and] at hv
  obtain ⟨rfl, rfl⟩ := hv
  have hlen : ((L.drop lo).take (hi - lo)).length = hi - lo := by simp; omega
  refine ⟨_, cap - lo, by simp only [sliced, hlen]; rfl, by omega, by unfold maxLen at *; omega, ?_, ?_⟩
  · intro h
    split at h
    · have := hn h; omega
    · simp at h; have := hn h; omega
  · intro x hx i hi0
    have hi' : i < hi - lo := by omega
    rw [if_neg (by omega)] at hx
    cases a with
    | none => simp at hx
    | some y =>
      have h0 := hc y rfl (lo + i) (by omega)
      obtain ⟨b, off, spot⟩ := y
      have z0 := hc _ rfl 0 (by omega)
      have hsp : spot = none := by simpa [Addr.add] using World.cell?_spot z0
      subst hsp
      simp [Addr.add_lit] at hx
      subst hx
      simp only [Addr.add_lit] at h0 ⊢
      rw [show off + lo + i = off + (lo + i) by omega, h0]
      simp [List.getD, hi']

theorem run_pl_from (a : Option Addr) (n cap m : Nat) (hm : m ≤ n) (w : World) :
    (Instr.slice 77 (.slice a n cap) (some (.int .i64 m)) none none).run Try.prog w = .ok (sliced a m n cap 2) w := by
  have hs : ∀ w : World, (sizeOf (Try.prog.elem 77)).run Try.prog w = .ok 2 w := fun w => by kernel_rfl
  rw [run_slice_l w 77 _ n cap (by kernel_rfl) .i64 m (by omega) (by omega), hs]
  simp [Result.andThen]

theorem run_pl_within (a : Option Addr) (n cap lo hi : Nat) (h1 : lo ≤ hi) (h2 : hi ≤ cap) (w : World) :
    (Instr.slice 77 (.slice a n cap) (some (.int .i64 lo)) (some (.int .i64 hi)) none).run Try.prog w = .ok (sliced a lo hi cap 2) w := by
  have hs : ∀ w : World, (sizeOf (Try.prog.elem 77)).run Try.prog w = .ok 2 w := fun w => by kernel_rfl
  rw [run_slice_lh w 77 _ n cap (by kernel_rfl) .i64 .i64 lo hi (by omega) (by omega) (by omega), hs]
  simp [Result.andThen]

theorem run_sl_from (a : Option Addr) (n cap m : Nat) (hm : m ≤ n) (w : World) :
    (Instr.slice 41 (.slice a n cap) (some (.int .i64 m)) none none).run Try.prog w = .ok (sliced a m n cap 1) w := by
  have hs : ∀ w : World, (sizeOf (Try.prog.elem 41)).run Try.prog w = .ok 1 w := fun w => by kernel_rfl
  rw [run_slice_l w 41 _ n cap (by kernel_rfl) .i64 m (by omega) (by omega), hs]
  simp [Result.andThen]

theorem drop_take_all {α : Type} (L : List α) (m : Nat) : (L.drop m).take (L.length - m) = L.drop m := List.take_of_length_le (by simp)
end Go.Proofs.Ytefnkbgkcjhkoaa

/-
  The plain mathematics of layer 6, first part: which postings may be, where a document's stands, a place put. No program is named here.
-/
namespace Go.Proofs.Ytefnkbgkcjhkoaa.Q

/-! ### Rising numbers below an end -/

def riseB : Int → Int → List Int → Bool
  | _, _, [] => true
  | m, z, x :: r => decide (m ≤ x ∧ x < z) && riseB (x + 1) z r

theorem rise_cons {m z x : Int} {r : List Int} (h : m ≤ x ∧ x < z) : riseB m z (x :: r) = riseB (x + 1) z r := by simp [riseB, h]
theorem rise_not {m z x : Int} {r : List Int} (h : ¬ (m ≤ x ∧ x < z)) : riseB m z (x :: r) = false := by simp only [riseB, h, decide_false, Bool.false_and]
theorem rise_head {m z x : Int} {r : List Int} (h : riseB m z (x :: r) = true) : (m ≤ x ∧ x < z) ∧ riseB (x + 1) z r = true := by simpa [riseB] using h

theorem rise_le : ∀ {l : List Int} {m z : Int}, riseB m z l = true → ∀ y ∈ l, m ≤ y ∧ y < z
  | [], _, _, _, y, hy => by simp at hy
  | x :: r, m, z, h, y, hy => by
    obtain ⟨h1, h2⟩ := rise_head h
    rcases List.mem_cons.1 hy with rfl | hy
    · exact h1
    · have := rise_le h2 y hy
      omega

theorem rise_mono : ∀ {l : List Int} {m m' z : Int}, m' ≤ m → riseB m z l = true → riseB m' z l = true
  | [], _, _, _, _, _ => rfl
  | x :: r, m, m', z, hm, h => by
    obtain ⟨h1, h2⟩ := rise_head h
    rw [rise_cons (by omega)]
    exact h2

theorem rise_len : ∀ {l : List Int} {m z : Int}, riseB m z l = true → l ≠ [] → m + (l.length : Int) ≤ z
  | [], _, _, _, h => absurd rfl h
  | [x], m, z, h, _ => by
    have := (rise_head h).1
    simp
    omega
  | x :: y :: r, m, z, h, _ => by
    obtain ⟨h1, h2⟩ := rise_head h
    have := rise_len h2 (by simp)
    simp only [List.length_cons] at this ⊢
    omega

theorem rise_V : ∀ {l : List Int} {m z : Int}, z ≤ 34359738368 → riseB m z l = true → V.risingB m l = true
  | [], _, _, _, _ => rfl
  | x :: r, m, z, hz, h => by
    obtain ⟨h1, h2⟩ := rise_head h
    rw [V.rising_cons (by omega)]
    exact rise_V hz h2

/-- Two rising lists with the same numbers are the same. -/
theorem rise_ext : ∀ {l k : List Int} {m m' z : Int}, riseB m z l = true → riseB m' z k = true → (∀ y, y ∈ l ↔ y ∈ k) → l = k
  | [], [], _, _, _, _, _, _ => rfl
  | [], y :: r, _, _, _, _, _, h => absurd ((h y).2 (by simp)) (by simp)
  | x :: r, [], _, _, _, _, _, h => absurd ((h x).1 (by simp)) (by simp)
  | x :: r, y :: s, m, m', z, h1, h2, h => by
    obtain ⟨_, a2⟩ := rise_head h1
    obtain ⟨_, b2⟩ := rise_head h2
    have ra := rise_le a2
    have rb := rise_le b2
    have hxy : x = y := by
      rcases List.mem_cons.1 ((h x).1 (by simp)) with e | e
      · exact e
      · rcases List.mem_cons.1 ((h y).2 (by simp)) with e' | e'
        · exact e'.symm
        · have := ra y e'
          have := rb x e
          omega
    subst hxy
    congr 1
    refine rise_ext a2 b2 fun u => ?_
    constructor
    · intro hu
      rcases List.mem_cons.1 ((h u).1 (List.mem_cons_of_mem _ hu)) with e | e
      · have := ra u hu; omega
      · exact e
    · intro hu
      rcases List.mem_cons.1 ((h u).2 (List.mem_cons_of_mem _ hu)) with e | e
      · have := rb u hu; omega
      · exact e

/-! ### A number put among rising ones -/

/-- How many stand ahead of x. -/
def ahead (l : List Int) (x : Int) : Nat := (l.takeWhile (fun y => decide (y < x))).length
def ins (l : List Int) (x : Int) : List Int := l.take (ahead l x) ++ x :: l.drop (ahead l x)

theorem ahead_le (l : List Int) (x : Int) : ahead l x ≤ l.length := (List.takeWhile_sublist _).length_le
theorem ahead_cons_lt {y x : Int} {r : List Int} (h : y < x) : ahead (y :: r) x = ahead r x + 1 := by simp [ahead, List.takeWhile, h]
theorem ahead_cons_ge {y x : Int} {r : List Int} (h : ¬ y < x) : ahead (y :: r) x = 0 := by simp [ahead, List.takeWhile, h]

/-- It is the k for which all ahead are less, and the k-th, if there is one, is not. -/
theorem ahead_is : ∀ {l : List Int} {x : Int} {k : Nat}, k ≤ l.length → (∀ i y, i < k → l[i]? = some y → y < x) → (∀ y, l[k]? = some y → ¬ y < x) → ahead l x = k
  | [], _, k, h, _, _ => by simp at h; subst h; rfl
  | y :: r, x, 0, _, _, h2 => ahead_cons_ge (h2 y rfl)
  | y :: r, x, k + 1, h, h1, h2 => by
    rw [ahead_cons_lt (h1 0 y (by omega) rfl), ahead_is (k := k) (by simpa using h) (fun i u hi hu => h1 (i + 1) u (by omega) (by simpa using hu)) (fun u hu => h2 u (by simpa using hu))]

theorem ahead_lt : ∀ {l : List Int} {x : Int} {i : Nat} {y : Int}, i < ahead l x → l[i]? = some y → y < x
  | [], _, i, y, h, hy => by simp at hy
  | u :: r, x, i, y, h, hy => by
    by_cases hu : u < x
    · cases i with
      | zero => simp at hy; omega
      | succ i =>
        rw [ahead_cons_lt hu] at h
        exact ahead_lt (l := r) (i := i) (by omega) (by simpa using hy)
    · rw [ahead_cons_ge hu] at h; omega

theorem ahead_at : ∀ {l : List Int} {x y : Int}, l[ahead l x]? = some y → ¬ y < x
  | [], _, _, h => by simp at h
  | u :: r, x, y, h => by
    by_cases hu : u < x
    · rw [ahead_cons_lt hu] at h
      exact ahead_at (l := r) (by simpa using h)
    · rw [ahead_cons_ge hu] at h
      simp at h
      omega

theorem ins_cons_lt {y x : Int} {r : List Int} (h : y < x) : ins (y :: r) x = y :: ins r x := by simp [ins, ahead_cons_lt h]
theorem ins_cons_ge {y x : Int} {r : List Int} (h : ¬ y < x) : ins (y :: r) x = x :: y :: r := by simp [ins, ahead_cons_ge h]

theorem ins_mem (l : List Int) (x y : Int) : y ∈ ins l x ↔ y = x ∨ y ∈ l := by
  rw [ins, List.mem_append, List.mem_cons]
  conv => rhs; rw [← List.take_append_drop (ahead l x) l, List.mem_append]
  constructor
  · rintro (h | h | h)
    · exact .inr (.inl h)
    · exact .inl h
    · exact .inr (.inr h)
  · rintro (h | h | h)
    · exact .inr (.inl h)
    · exact .inl h
    · exact .inr (.inr h)

theorem ins_len (l : List Int) (x : Int) : (ins l x).length = l.length + 1 := by
  have := ahead_le l x
  simp [ins]
  omega

theorem ins_rise : ∀ {l : List Int} {m z x : Int}, riseB m z l = true → m ≤ x → x < z → x ∉ l → riseB m z (ins l x) = true
  | [], m, z, x, _, h1, h2, _ => by simp [ins, ahead, riseB, h1, h2]
  | y :: r, m, z, x, h, h1, h2, h3 => by
    obtain ⟨a1, a2⟩ := rise_head h
    simp only [List.mem_cons, not_or] at h3
    by_cases hy : y < x
    · rw [ins_cons_lt hy, rise_cons a1]
      exact ins_rise a2 (by omega) h2 h3.2
    · rw [ins_cons_ge hy, rise_cons ⟨h1, h2⟩, rise_cons (by omega)]
      exact a2

/-- In a rising list x stands where as many are ahead, or nowhere. -/
theorem mem_ahead : ∀ {l : List Int} {m z x : Int}, riseB m z l = true → (x ∈ l ↔ l[ahead l x]? = some x)
  | [], _, _, x, _ => by simp
  | y :: r, m, z, x, h => by
    obtain ⟨a1, a2⟩ := rise_head h
    by_cases hy : y < x
    · rw [ahead_cons_lt hy, List.mem_cons]
      have ih := mem_ahead (x := x) a2
      simp only [List.getElem?_cons_succ]
      rw [← ih]
      constructor
      · rintro (e | e)
        · omega
        · exact e
      · exact .inr
    · rw [ahead_cons_ge hy]
      simp only [List.getElem?_cons_zero, Option.some.injEq, List.mem_cons]
      constructor
      · rintro (e | e)
        · exact e.symm
        · have := rise_le a2 x e
          omega
      · exact fun e => .inl e.symm

/-! ### Which postings may be -/

def places (l : List Int) : Bool := riseB 0 120 l && decide (0 < l.length)

def mayB : Int → List Pt → Bool
  | _, [] => true
  | m, p :: r => decide (m ≤ p.d ∧ p.d < 64) && places p.a && mayB (p.d + 1) r
def may (L : List Pt) : Bool := mayB 0 L

theorem may_cons {m : Int} {p : Pt} {r : List Pt} (h : m ≤ p.d ∧ p.d < 64) (hp : places p.a = true) : mayB m (p :: r) = mayB (p.d + 1) r := by simp [mayB, h, hp]
theorem may_not1 {m : Int} {p : Pt} {r : List Pt} (h : ¬ (m ≤ p.d ∧ p.d < 64)) : mayB m (p :: r) = false := by simp only [mayB, h, decide_false, Bool.false_and]
theorem may_not2 {m : Int} {p : Pt} {r : List Pt} (h : places p.a = false) : mayB m (p :: r) = false := by simp only [mayB, h, Bool.and_false, Bool.false_and]
theorem may_head {m : Int} {p : Pt} {r : List Pt} (h : mayB m (p :: r) = true) : (m ≤ p.d ∧ p.d < 64) ∧ places p.a = true ∧ mayB (p.d + 1) r = true := by
  simp only [mayB, Bool.and_eq_true, decide_eq_true_eq] at h
  exact ⟨h.1.1, h.1.2, h.2⟩

theorem may_all : ∀ {L : List Pt} {m : Int}, mayB m L = true → ∀ p ∈ L, (m ≤ p.d ∧ p.d < 64) ∧ places p.a = true
  | [], _, _, p, hp => by simp at hp
  | q :: r, m, h, p, hp => by
    obtain ⟨h1, h2, h3⟩ := may_head h
    rcases List.mem_cons.1 hp with rfl | hp
    · exact ⟨h1, h2⟩
    · have := may_all h3 p hp
      exact ⟨by omega, this.2⟩

theorem may_len : ∀ {L : List Pt} {m : Int}, mayB m L = true → L ≠ [] → m + (L.length : Int) ≤ 64
  | [], _, _, h => absurd rfl h
  | [p], m, h, _ => by
    have := (may_head h).1
    simp
    omega
  | p :: q :: r, m, h, _ => by
    obtain ⟨h1, _, h2⟩ := may_head h
    have := may_len h2 (by simp)
    simp only [List.length_cons] at this ⊢
    omega

theorem may_le {L : List Pt} (h : may L = true) : L.length ≤ 64 := by
  cases L with
  | nil => simp
  | cons p r =>
    have := may_len h (by simp)
    simp only [List.length_cons] at this ⊢
    omega

theorem places_le {l : List Int} (h : places l = true) : 1 ≤ l.length ∧ l.length ≤ 120 := by
  simp only [places, Bool.and_eq_true, decide_eq_true_eq] at h
  have := rise_len h.1 (by intro e; rw [e] at h; simp at h)
  omega
theorem places_rise {l : List Int} (h : places l = true) : riseB 0 120 l = true := by
  simp only [places, Bool.and_eq_true] at h
  exact h.1
theorem places_V {l : List Int} (h : places l = true) : V.rises l = true := by
  have h1 := places_le h
  simp only [V.rises, Bool.and_eq_true, decide_eq_true_eq]
  exact ⟨by omega, rise_V (by omega) (places_rise h)⟩

/-! ### Where a document's posting stands -/

def first (L : List Pt) (d : Int) : Nat := ahead (L.map Pt.d) d
def hasD (L : List Pt) (d : Int) : Bool := decide ((L.map Pt.d)[first L d]? = some d)
def find (L : List Pt) (d : Int) : Int := if may L = true ∧ hasD L d = true then (first L d : Int) else -1

theorem first_le (L : List Pt) (d : Int) : first L d ≤ L.length := by
  have := ahead_le (L.map Pt.d) d
  simpa [first] using this

theorem may_rise : ∀ {L : List Pt} {m : Int}, mayB m L = true → riseB m 64 (L.map Pt.d) = true
  | [], _, _ => rfl
  | p :: r, m, h => by
    obtain ⟨h1, _, h2⟩ := may_head h
    rw [List.map_cons, rise_cons h1]
    exact may_rise h2

theorem find_not {L : List Pt} {d : Int} (h : may L = false) : find L d = -1 := by simp [find, h]
theorem find_none {L : List Pt} {d : Int} (h : hasD L d = false) : find L d = -1 := by simp [find, h]
theorem find_at {L : List Pt} {d : Int} (h : may L = true) (h2 : hasD L d = true) : find L d = first L d := by simp [find, h, h2]

theorem hasD_at {L : List Pt} {d : Int} {p : Pt} (h : L[first L d]? = some p) : hasD L d = decide (p.d = d) := by simp [hasD, List.getElem?_map, h]
theorem hasD_end {L : List Pt} {d : Int} (h : first L d = L.length) : hasD L d = false := by simp [hasD, h]
theorem hasD_mem {L : List Pt} {d m : Int} (h : mayB m L = true) : hasD L d = true ↔ ∃ p ∈ L, p.d = d := by
  have := mem_ahead (x := d) (may_rise h)
  unfold hasD first
  rw [decide_eq_true_iff, ← this]
  simp

/-! ### A place put -/

/-- With the posting of d at its place, or the new one. -/
def putL (L : List Pt) (d x : Int) : List Pt :=
  match L[first L d]? with
  | some p => if p.d = d then L.set (first L d) ⟨d, ins p.a x⟩ else L.take (first L d) ++ ⟨d, [x]⟩ :: L.drop (first L d)
  | none => L.take (first L d) ++ ⟨d, [x]⟩ :: L.drop (first L d)

def hasP (L : List Pt) (d x : Int) : Bool :=
  match L[first L d]? with
  | some p => decide (p.d = d) && decide (x ∈ p.a)
  | none => false

def argB (L : List Pt) (d x : Int) : Bool := may L && decide (0 ≤ d ∧ d ≤ 63) && decide (0 ≤ x ∧ x ≤ 119)
/-- What Put answers: the postings, and the error. -/
def putA (L : List Pt) (d x : Int) : List Pt := if argB L d x = true ∧ hasP L d x = false then putL L d x else L
def putE (L : List Pt) (d x : Int) : Int := if argB L d x = true then (if hasP L d x = true then 3 else 0) else 1

theorem put_arg {L : List Pt} {d x : Int} (h : argB L d x = false) : putA L d x = L ∧ putE L d x = 1 := by simp [putA, putE, h]
theorem put_there {L : List Pt} {d x : Int} (h : argB L d x = true) (h2 : hasP L d x = true) : putA L d x = L ∧ putE L d x = 3 := by simp [putA, putE, h, h2]
theorem put_new {L : List Pt} {d x : Int} (h : argB L d x = true) (h2 : hasP L d x = false) : putA L d x = putL L d x ∧ putE L d x = 0 := by simp [putA, putE, h, h2]

theorem first_cons_lt {p : Pt} {r : List Pt} {d : Int} (h : p.d < d) : first (p :: r) d = first r d + 1 := by simp [first, ahead_cons_lt h]
theorem first_cons_ge {p : Pt} {r : List Pt} {d : Int} (h : ¬ p.d < d) : first (p :: r) d = 0 := by simp [first, ahead_cons_ge h]

theorem putL_nil (d x : Int) : putL [] d x = [⟨d, [x]⟩] := rfl
theorem putL_lt {p : Pt} {r : List Pt} {d x : Int} (h : p.d < d) : putL (p :: r) d x = p :: putL r d x := by
  unfold putL
  rw [first_cons_lt h]
  simp only [List.getElem?_cons_succ]
  cases r[first r d]? with
  | none => rfl
  | some q =>
    simp only []
    split <;> rfl
theorem putL_eq {p : Pt} {r : List Pt} {x : Int} : putL (p :: r) p.d x = ⟨p.d, ins p.a x⟩ :: r := by
  unfold putL
  rw [first_cons_ge (by omega)]
  simp
theorem putL_gt {p : Pt} {r : List Pt} {d x : Int} (h : d < p.d) : putL (p :: r) d x = ⟨d, [x]⟩ :: p :: r := by
  unfold putL
  rw [first_cons_ge (by omega)]
  simp
  omega

theorem hasP_nil (d x : Int) : hasP [] d x = false := rfl
theorem hasP_lt {p : Pt} {r : List Pt} {d x : Int} (h : p.d < d) : hasP (p :: r) d x = hasP r d x := by
  unfold hasP
  rw [first_cons_lt h]
  simp
theorem hasP_eq {p : Pt} {r : List Pt} {x : Int} : hasP (p :: r) p.d x = decide (x ∈ p.a) := by
  unfold hasP
  rw [first_cons_ge (by omega)]
  simp
theorem hasP_gt {p : Pt} {r : List Pt} {d x : Int} (h : d < p.d) : hasP (p :: r) d x = false := by
  unfold hasP
  rw [first_cons_ge (by omega)]
  simp
  omega

theorem putL_may : ∀ {L : List Pt} {m d x : Int}, mayB m L = true → m ≤ d → d < 64 → 0 ≤ x → x < 120 → hasP L d x = false → mayB m (putL L d x) = true
  | [], m, d, x, _, h1, h2, h3, h4, _ => by simp [putL_nil, mayB, places, riseB, h1, h2, h3, h4]
  | p :: r, m, d, x, h, h1, h2, h3, h4, h5 => by
    obtain ⟨a1, a2, a3⟩ := may_head h
    rcases Int.lt_trichotomy p.d d with e | e | e
    · rw [putL_lt e, may_cons a1 a2]
      rw [hasP_lt e] at h5
      exact putL_may a3 (by omega) h2 h3 h4 h5
    · subst e
      rw [putL_eq]
      rw [hasP_eq] at h5
      rw [may_cons (p := ⟨p.d, ins p.a x⟩) a1]
      · exact a3
      · simp only [places, Bool.and_eq_true, decide_eq_true_eq]
        exact ⟨ins_rise (places_rise a2) h3 h4 (by simpa using h5), by rw [ins_len]; omega⟩
    · rw [putL_gt e, may_cons (p := ⟨d, [x]⟩) ⟨h1, h2⟩ (by simp [places, riseB, h3, h4]), may_cons ⟨by show d + 1 ≤ p.d; omega, a1.2⟩ a2]
      exact a3

/-- What is there behind it: what was, and what was put. -/
theorem putL_has : ∀ {L : List Pt} {m d x : Int}, mayB m L = true → ∀ u y, hasP (putL L d x) u y = true ↔ hasP L u y = true ∨ (u = d ∧ y = x)
  | [], m, d, x, _, u, y => by
    rw [putL_nil, hasP_nil]
    rcases Int.lt_trichotomy d u with e | e | e
    · rw [hasP_lt (p := ⟨d, [x]⟩) e, hasP_nil]; simp; omega
    · subst e
      rw [show (⟨d, [x]⟩ : Pt) = ⟨d, [x]⟩ from rfl, hasP_eq (p := ⟨d, [x]⟩)]; simp
    · rw [hasP_gt (p := ⟨d, [x]⟩) e]; simp; omega
  | p :: r, m, d, x, h, u, y => by
    obtain ⟨a1, a2, a3⟩ := may_head h
    rcases Int.lt_trichotomy p.d d with e | e | e
    · rw [putL_lt e]
      rcases Int.lt_trichotomy p.d u with f | f | f
      · rw [hasP_lt f, hasP_lt f]; exact putL_has a3 u y
      · subst f
        rw [hasP_eq, hasP_eq]
        constructor
        · exact .inl
        · rintro (g | g)
          · exact g
          · omega
      · rw [hasP_gt f, hasP_gt f]; simp; omega
    · subst e
      rw [putL_eq]
      rcases Int.lt_trichotomy p.d u with f | f | f
      · rw [hasP_lt (p := ⟨p.d, ins p.a x⟩) f, hasP_lt f]
        constructor
        · exact .inl
        · rintro (g | g)
          · exact g
          · omega
      · subst f
        rw [hasP_eq (p := ⟨p.d, ins p.a x⟩), hasP_eq]
        simp [ins_mem]
        constructor
        · rintro (g | g)
          · exact .inr g
          · exact .inl g
        · rintro (g | g)
          · exact .inr g
          · exact .inl g
      · rw [hasP_gt (p := ⟨p.d, ins p.a x⟩) f, hasP_gt f]; simp; omega
    · rw [putL_gt e]
      rcases Int.lt_trichotomy d u with f | f | f
      · rw [hasP_lt (p := ⟨d, [x]⟩) f]
        constructor
        · exact .inl
        · rintro (g | g)
          · exact g
          · omega
      · subst f
        rw [hasP_eq (p := ⟨d, [x]⟩), hasP_gt e]; simp
      · rw [hasP_gt (p := ⟨d, [x]⟩) f, hasP_gt (by omega)]; simp; omega

/-- Postings that may be, and have the same places, are the same. -/
theorem may_ext : ∀ {L M : List Pt} {m m' : Int}, mayB m L = true → mayB m' M = true → (∀ u y, hasP L u y = true ↔ hasP M u y = true) → L = M
  | [], [], _, _, _, _, _ => rfl
  | [], q :: s, _, _, _, h2, h => by
    obtain ⟨_, b2, _⟩ := may_head h2
    have hl := (places_le b2).1
    obtain ⟨y, hy⟩ : ∃ y, y ∈ q.a := ⟨q.a[0], List.getElem_mem _⟩
    have := (h q.d y).2 (by rw [hasP_eq]; simpa using hy)
    simp [hasP_nil] at this
  | p :: r, [], _, _, h1, _, h => by
    obtain ⟨_, b2, _⟩ := may_head h1
    have hl := (places_le b2).1
    obtain ⟨y, hy⟩ : ∃ y, y ∈ p.a := ⟨p.a[0], List.getElem_mem _⟩
    have := (h p.d y).1 (by rw [hasP_eq]; simpa using hy)
    simp [hasP_nil] at this
  | p :: r, q :: s, m, m', h1, h2, h => by
    obtain ⟨a1, a2, a3⟩ := may_head h1
    obtain ⟨b1, b2, b3⟩ := may_head h2
    have la := (places_le a2).1
    have lb := (places_le b2).1
    have hpq : p.d = q.d := by
      rcases Int.lt_trichotomy p.d q.d with e | e | e
      · obtain ⟨y, hy⟩ : ∃ y, y ∈ p.a := ⟨p.a[0], List.getElem_mem _⟩
        have := (h p.d y).1 (by rw [hasP_eq]; simpa using hy)
        rw [hasP_gt e] at this
        simp at this
      · exact e
      · obtain ⟨y, hy⟩ : ∃ y, y ∈ q.a := ⟨q.a[0], List.getElem_mem _⟩
        have := (h q.d y).2 (by rw [hasP_eq]; simpa using hy)
        rw [hasP_gt e] at this
        simp at this
    have hr : ∀ {L : List Pt} {n u : Int} {y : Int}, mayB n L = true → hasP L u y = true → n ≤ u := by
      intro L
      induction L with
      | nil => intro n u y _ h; simp [hasP_nil] at h
      | cons t L ih =>
        intro n u y hn hu
        obtain ⟨c1, c2, c3⟩ := may_head hn
        rcases Int.lt_trichotomy t.d u with e | e | e
        · omega
        · omega
        · rw [hasP_gt e] at hu; simp at hu
    have e1 : p = q := by
      refine Pt.eq hpq (rise_ext (places_rise a2) (places_rise b2) fun y => ?_)
      have := h p.d y
      rw [hasP_eq] at this
      rw [hpq, hasP_eq] at this
      simpa using this
    subst e1
    congr 1
    refine may_ext a3 b3 fun u y => ?_
    by_cases hu : p.d < u
    · have := h u y
      rw [hasP_lt hu, hasP_lt hu] at this
      exact this
    · constructor
      · intro g; have := hr a3 g; omega
      · intro g; have := hr b3 g; omega

end Go.Proofs.Ytefnkbgkcjhkoaa.Q
