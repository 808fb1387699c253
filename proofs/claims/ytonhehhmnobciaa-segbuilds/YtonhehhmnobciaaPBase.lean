/-
  Plain facts on slices of postings as the walks need them: what a slice of postings reads as ('Pl'), and that this stays behind draws and new memory; rows of postings of the call's own. No function of the program is named here.
-/
import Derived.Test.YtonhehhmnobciaaRows
import Derived.Test.YtonhehhmnobciaaBase
import Derived.Test.YtonhehhmnobciaaHelp
namespace Go.Proofs.Ytonhehhmnobciaa
set_option maxRecDepth 100000
open Go.RowKit

/-- A posting, as it reads. -/
structure Pt where
  d : Int
  a : List Int

theorem Pt.eq {p q : Pt} (h1 : p.d = q.d) (h2 : p.a = q.a) : p = q := by
  cases p
  cases q
  simp at h1 h2
  subst h1
  subst h2
  rfl

/-- Are two postings, two lists of them, the same? -/
def Pt.eqb (f g : Pt) : Bool := decide (f.d = g.d) && decide (f.a = g.a)
def Pt.eqs : List Pt → List Pt → Bool
  | [], [] => true
  | f :: L, g :: M => Pt.eqb f g && Pt.eqs L M
  | _, _ => false
theorem Pt.eqb_iff {f g : Pt} : Pt.eqb f g = true ↔ f = g := by
  cases f
  cases g
  simp [Pt.eqb]
theorem Pt.eqs_iff : ∀ {L M : List Pt}, Pt.eqs L M = true ↔ L = M
  | [], [] => by simp [Pt.eqs]
  | [], _ :: _ => by simp [Pt.eqs]
  | _ :: _, [] => by simp [Pt.eqs]
  | f :: L, g :: M => by simp [Pt.eqs, Pt.eqb_iff, Pt.eqs_iff]
theorem Pt.eqs_refl (L : List Pt) : Pt.eqs L L = true := Pt.eqs_iff.2 rfl
theorem Pt.eqb_not {f g : Pt} (h : ¬ f = g) : Pt.eqb f g = false := by rw [← Bool.not_eq_true, Pt.eqb_iff]; exact h
theorem Pt.eqs_not {L M : List Pt} (h : ¬ L = M) : Pt.eqs L M = false := by rw [← Bool.not_eq_true, Pt.eqs_iff]; exact h
theorem Pt.eqs_comm (L M : List Pt) : Pt.eqs L M = Pt.eqs M L := by
  by_cases h : L = M
  · rw [h]
  · rw [Pt.eqs_not h, Pt.eqs_not (fun e => h e.symm)]

theorem below_set {w w1 : World} (h : Below w.heap.size w w1) {p : Addr} (hp : w.heap.size ≤ p.block) (u : Value) : Below w.heap.size w (w1.setCell p u) := h.setCell hp u
theorem below_dr' {B : Nat} {w w1 : World} (h : Below B w w1) (n : Nat) : Below B w (w1.drewN n) := ⟨h.os, h.tape, h.output, h.size, h.block⟩

/-- The slice value v reads, in w, as the postings L. -/
def Pl (w : World) (v : Value) (L : List Pt) : Prop :=
  ∃ a cap, v = .slice a L.length cap ∧ L.length ≤ cap ∧ cap ≤ maxLen ∧ (a = none → cap = 0) ∧
    ∀ x, a = some x → ∀ i p, L[i]? = some p → ∃ dv, w.cell? (x.add (i * 2)) = some (.int .i64 p.d) ∧ w.cell? (x.add (i * 2 + 1)) = some dv ∧ Sl .i64 w dv p.a

theorem Pl.nil (w : World) : Pl w (.slice none 0 0) [] := ⟨none, 0, rfl, Nat.le_refl _, Nat.zero_le _, fun _ => rfl, fun _ h => by cases h⟩

theorem Pl.below {w w' : World} {v : Value} {L : List Pt} (h : Pl w v L) (hb : Below w.heap.size w w') : Pl w' v L := by
  obtain ⟨a, cap, hv, hl, hm, hn, hc⟩ := h
  refine ⟨a, cap, hv, hl, hm, hn, fun x hx i f hi => ?_⟩
  obtain ⟨dv, h0, h1, h3⟩ := hc x hx i f hi
  exact ⟨dv, by rw [hb.cell (World.block_lt_of_cell? w _ h0)]; exact h0, by rw [hb.cell (World.block_lt_of_cell? w _ h1)]; exact h1, h3.below hb⟩

theorem Pl.drewN {w : World} {v : Value} {L : List Pt} (h : Pl w v L) (n : Nat) : Pl (w.drewN n) v L := h

theorem Pl.len {w : World} {v : Value} {L : List Pt} (h : Pl w v L) : L.length ≤ 9223372036854775807 := by
  obtain ⟨a, cap, _, hl, hm, _⟩ := h
  unfold maxLen at hm
  omega

/-- As it is used: the value, written out; where there is an element, a block and a place in it. -/
theorem Pl.open {w : World} {v : Value} {L : List Pt} (h : Pl w v L) :
    ∃ a cap, v = .slice a L.length cap ∧ L.length ≤ cap ∧ cap ≤ 9223372036854775807 ∧ (a = none → cap = 0) ∧
      (0 < L.length → ∃ b off, a = some ⟨b, off, none⟩ ∧ b < w.heap.size ∧ ∀ i p, L[i]? = some p → ∃ da dc, w.cell? ⟨b, off + i * 2, none⟩ = some (.int .i64 p.d) ∧ w.cell? ⟨b, off + i * 2 + 1, none⟩ = some (.slice da p.a.length dc) ∧
        Sl .i64 w (.slice da p.a.length dc) p.a) := by
  obtain ⟨a, cap, hv, hl, hm, hn, hc⟩ := h
  refine ⟨a, cap, hv, hl, hm, hn, fun hp => ?_⟩
  cases a with
  | none => have := hn rfl; omega
  | some x =>
    obtain ⟨b, off, spot⟩ := x
    obtain ⟨f0, hf0⟩ : ∃ f, L[0]? = some f := ⟨L[0], List.getElem?_eq_getElem hp⟩
    obtain ⟨dv, h0, _⟩ := hc _ rfl 0 f0 hf0
    have hs : spot = none := by simpa [Addr.add] using World.cell?_spot h0
    subst hs
    refine ⟨b, off, rfl, by simpa [Addr.add] using World.block_lt_of_cell? w _ h0, fun i f hf => ?_⟩
    obtain ⟨dv, g0, g1, g3⟩ := hc _ rfl i f hf
    simp only [Addr.add_lit] at g0 g1
    obtain ⟨da, dc, rfl, r⟩ := id g3
    exact ⟨da, dc, g0, by rw [Nat.add_assoc]; exact g1, g3⟩

/-- The two cells of each posting, one behind the other; Q: what the places are. -/
def PCp (Q : Value → List Int → Prop) : List Value → List Pt → Prop
  | [], [] => True
  | a :: b :: cs, f :: L => a = .int .i64 f.d ∧ Q b f.a ∧ PCp Q cs L
  | _, _ => False
abbrev PC (w : World) : List Value → List Pt → Prop := PCp (Sl .i64 w)

theorem PCp.len {Q : Value → List Int → Prop} : ∀ {cs : List Value} {L : List Pt}, PCp Q cs L → cs.length = L.length * 2
  | [], [], _ => rfl
  | a :: b :: cs, f :: L, h => by have := PCp.len h.2.2; simp only [List.length_cons]; omega
  | [], _ :: _, h => h.elim
  | [_], _ :: _, h => h.elim
  | _ :: _, [], h => by simp [PCp] at h

theorem PCp.append {Q : Value → List Int → Prop} : ∀ {cs ds : List Value} {L M : List Pt}, PCp Q cs L → PCp Q ds M → PCp Q (cs ++ ds) (L ++ M)
  | [], _, [], _, _, h => h
  | a :: b :: cs, _, f :: L, _, h, k => ⟨h.1, h.2.1, PCp.append h.2.2 k⟩
  | [], _, _ :: _, _, h, _ => h.elim
  | [_], _, _ :: _, _, h, _ => h.elim
  | _ :: _, _, [], _, h, _ => by simp [PCp] at h

theorem PCp.turn {Q Q' : Value → List Int → Prop} (hw : ∀ v z, Q v z → Q' v z) : ∀ {cs : List Value} {L : List Pt}, PCp Q cs L → PCp Q' cs L
  | [], [], _ => trivial
  | a :: b :: cs, f :: L, h => ⟨h.1, hw _ _ h.2.1, PCp.turn hw h.2.2⟩
  | [], _ :: _, h => h.elim
  | [_], _ :: _, h => h.elim
  | _ :: _, [], h => by simp [PCp] at h

theorem PCp.below {w w' : World} {cs : List Value} {L : List Pt} (h : PC w cs L) (hb : Below w.heap.size w w') : PC w' cs L := h.turn fun _ _ h => h.below hb

theorem PCp.at {Q : Value → List Int → Prop} : ∀ {cs : List Value} {L : List Pt}, PCp Q cs L → ∀ i f, L[i]? = some f → ∃ dv, cs[i * 2]? = some (.int .i64 f.d) ∧ cs[i * 2 + 1]? = some dv ∧ Q dv f.a
  | [], [], _, i, f, hf => by simp at hf
  | a :: b :: cs, g :: L, h, i, f, hf => by
    cases i with
    | zero =>
      simp at hf
      subst hf
      exact ⟨b, by simp [h.1], by simp, h.2.1⟩
    | succ i =>
      obtain ⟨dv, h0, h1, h3⟩ := PCp.at h.2.2 i f (by simpa using hf)
      have e0 : (i + 1) * 2 = i * 2 + 1 + 1 := by omega
      exact ⟨dv, by rw [e0]; simpa using h0, by rw [e0]; simpa using h1, h3⟩
  | [], _ :: _, h, _, _, _ => h.elim
  | [_], _ :: _, h, _, _, _ => h.elim
  | _ :: _, [], h, _, _, _ => by simp [PCp] at h

/-- The postings from the i-th on, and those ahead of it. -/
theorem PCp.take {Q : Value → List Int → Prop} : ∀ {cs : List Value} {L : List Pt}, PCp Q cs L → ∀ i, PCp Q (cs.take (i * 2)) (L.take i)
  | [], [], _, i => by simp [PCp]
  | a :: b :: cs, g :: L, h, i => by
    cases i with
    | zero => simp [PCp]
    | succ i =>
      rw [show (i + 1) * 2 = i * 2 + 1 + 1 by omega]
      simp only [List.take_succ_cons]
      exact ⟨h.1, h.2.1, PCp.take h.2.2 i⟩
  | [], _ :: _, h, _ => h.elim
  | [_], _ :: _, h, _ => h.elim
  | _ :: _, [], h, _ => by simp [PCp] at h
theorem PCp.drop {Q : Value → List Int → Prop} : ∀ {cs : List Value} {L : List Pt}, PCp Q cs L → ∀ i, PCp Q (cs.drop (i * 2)) (L.drop i)
  | [], [], _, i => by simp [PCp]
  | a :: b :: cs, g :: L, h, i => by
    cases i with
    | zero => simpa using h
    | succ i =>
      rw [show (i + 1) * 2 = i * 2 + 1 + 1 by omega]
      simp only [List.drop_succ_cons]
      exact PCp.drop h.2.2 i
  | [], _ :: _, h, _ => h.elim
  | [_], _ :: _, h, _ => h.elim
  | _ :: _, [], h, _ => by simp [PCp] at h

/-- The slice value v is a row of the call's own, from block B on, that holds the postings L; their places are read in w0. -/
def PO (B : Nat) (w0 w : World) (v : Value) (L : List Pt) : Prop := ∃ cs, w.ownsRow B 51 2 v L.length cs ∧ PC w0 cs L

theorem PO.nil (B : Nat) (w0 w : World) : PO B w0 w (.slice none 0 0) [] := ⟨[], World.ownsRow_nil _ _ _ _, trivial⟩

theorem pl_of {B : Nat} {w : World} {v : Value} {L : List Pt} {cs : List Value} (ho : w.ownsRow B 51 2 v L.length cs) (hc : PC w cs L) : Pl w v L := by
  rcases id ho.2 with ⟨rfl, h0⟩ | ⟨g, cap, cur, rfl, hb, hg, hn, hm, _⟩
  · have : L = [] := List.eq_nil_of_length_eq_zero h0
    subst this
    exact Pl.nil w
  · refine ⟨_, cap, rfl, hn, hm, (fun h => by cases h), fun x hx i f hi => ?_⟩
    obtain rfl := Option.some.inj hx
    obtain ⟨dv, h0, h1, h3⟩ := hc.at i f hi
    exact ⟨dv, ho.cells (g := g) rfl _ _ h0, ho.cells (g := g) rfl _ _ h1, h3⟩

theorem PO.pl {B : Nat} {w0 w : World} {v : Value} {L : List Pt} (h : PO B w0 w v L) (hs : ∀ v z, Sl .i64 w0 v z → Sl .i64 w v z) : Pl w v L := by
  obtain ⟨cs, ho, hc⟩ := h
  exact pl_of ho (hc.turn hs)

theorem PO.alloc {B : Nat} {w0 w : World} {v : Value} {L : List Pt} (h : PO B w0 w v L) (o : Obj) : PO B w0 (w.alloc o) v L := by
  obtain ⟨cs, ho, hc⟩ := h
  exact ⟨cs, ho.alloc o, hc⟩

theorem Try.infoP : (Try.prog.info? 51).map (fun i => (i.zero, i.size, i.bytes)) = some (some (.agg #[.int .i64 0, .slice none 0 0]), 2, 32) := by kernel_rfl

theorem PCp.one {Q : Value → List Int → Prop} {dv : Value} {f : Pt} (h : Q dv f.a) : PCp Q [.int .i64 f.d, dv] [f] := ⟨rfl, h, trivial⟩

theorem Sl.oneCell {k : IntKind} {w : World} {v : Value} {zs : List Int} (h : Sl k w v zs) : v.oneCell' = true := by
  obtain ⟨a, cap, rfl, _⟩ := h
  rfl

theorem PCp.ones {Q : Value → List Int → Prop} (hq : ∀ v z, Q v z → v.oneCell' = true) : ∀ {cs : List Value} {L : List Pt}, PCp Q cs L → ∀ u ∈ cs, u.oneCell' = true
  | [], [], _, u, hu => by simp at hu
  | a :: b :: cs, g :: L, h, u, hu => by
    simp only [List.mem_cons] at hu
    rcases hu with rfl | rfl | hu
    · rw [h.1]; rfl
    · exact hq _ _ h.2.1
    · exact PCp.ones hq h.2.2 u hu
  | [], _ :: _, h, _, _ => h.elim
  | [_], _ :: _, h, _, _ => h.elim
  | _ :: _, [], h, _, _ => by simp [PCp] at h

/-- 'out = append(out, p)', out a row of postings that the call itself made; Q: what the places are. -/
theorem append_post_p {Q : Value → List Int → Prop} (hq : ∀ v z, Q v z → v.oneCell' = true) {ops : Array Oper} {rest : List Oper} {o : Oper} {a : Act} {Q' : Exit → Act → World → Prop} {wr : World} (hgd : o.guard = none) (s x : Operand)
    (ho : o.op = .call { callee := .builtin .append, args := #[s, x], argTypes := #[48, 48] }) {B : Nat} {pre : List Pt} {v : Value} {f : Pt} {dv : Value} {cs : List Value} (hs : a.eval s = v) {n : Nat} (hx : a.eval x = .slice (some ⟨n, 0, none⟩) 1 1) (hn : n = wr.heap.size)
    (hc1 : wr.ownsRow B 51 2 v pre.length cs) (hc2 : PCp Q cs pre) (hf : Q dv f.a) (hB : B ≤ wr.heap.size) (hlen : pre.length ≤ 4294967296)
    (h : ∀ v' w' cs', w'.ownsRow B 51 2 v' (pre ++ [f]).length cs' → PCp Q cs' (pre ++ [f]) → wr.grownBy w' v.ownBlock → cs' = cs ++ [.int .i64 f.d, dv] → wpList Try.prog ops Q' rest (a.put o.dst v') w') :
    wpList Try.prog ops Q' (o :: rest) a (wr.alloc (.cells #[.int .i64 f.d, dv] 51)) := by
  obtain ⟨i0, hi, hz0, hz1, hz2⟩ := info_parts Try.infoP
  subst hn
  refine wpList_append_own _ hgd s x _ ho B 51 i0 _ 2 32 Try.underlying48 hi hz0 hz1 hz2 rfl (by decide) v pre.length _ hs (hc1.alloc _) ⟨wr.heap.size, 0, none⟩ 1 1 [.int .i64 f.d, dv] hx rfl ?_ (PCp.ones hq (PCp.one hf)) ?_ ?_ ?_ ?_
  · intro j u hj
    match j, hj with
    | 0, hj => simp at hj; subst hj; simp [Addr.add]
    | 1, hj => simp at hj; subst hj; simp [Addr.add]
  · unfold maxLen; omega
  · omega
  · simp; omega
  · intro v' w1 hown' hg _
    exact h v' w1 _ (by simpa using hown') (hc2.append (PCp.one hf)) ((World.grownBy_alloc _ _ _).trans hg) rfl

/-- 'out = append(out, p)', out a row of postings that the call itself made. -/
theorem append_post {ops : Array Oper} {rest : List Oper} {o : Oper} {a : Act} {Q : Exit → Act → World → Prop} {w0 wr : World} (hgd : o.guard = none) (s x : Operand)
    (ho : o.op = .call { callee := .builtin .append, args := #[s, x], argTypes := #[48, 48] }) {B : Nat} {pre : List Pt} {v : Value} {f : Pt} {dv : Value} (hs : a.eval s = v) {n : Nat} (hx : a.eval x = .slice (some ⟨n, 0, none⟩) 1 1) (hn : n = wr.heap.size)
    (hown : PO B w0 wr v pre) (hf : Sl .i64 w0 dv f.a) (hbel : Below B w0 wr) (hB : B ≤ wr.heap.size) (hlen : pre.length ≤ 4294967296)
    (h : ∀ v' w', PO B w0 w' v' (pre ++ [f]) → Below B w0 w' → wr.grownBy w' v.ownBlock → wpList Try.prog ops Q rest (a.put o.dst v') w') :
    wpList Try.prog ops Q (o :: rest) a (wr.alloc (.cells #[.int .i64 f.d, dv] 51)) := by
  obtain ⟨cs, hc1, hc2⟩ := hown
  refine append_post_p (fun _ _ h => Sl.oneCell h) hgd s x ho hs hx hn hc1 hc2 hf hB hlen ?_
  intro v' w' cs' h1 h2 h3 _
  exact h v' w' ⟨cs', h1, h2⟩ (hbel.grown h3 hB (fun j hj => (hc1.lt j hj).1)) h3

/-- The cells of postings that a slice holds, as a list. -/
theorem Pl.cells {w : World} {x : Addr} : ∀ {L : List Pt} (o : Nat), (∀ i f, L[i]? = some f → ∃ dv, w.cell? (x.add ((o + i) * 2)) = some (.int .i64 f.d) ∧ w.cell? (x.add ((o + i) * 2 + 1)) = some dv ∧ Sl .i64 w dv f.a) →
    ∃ cs, PC w cs L ∧ ∀ j u, cs[j]? = some u → w.cell? (x.add (o * 2 + j)) = some u
  | [], _, _ => ⟨[], trivial, fun j u h => by simp at h⟩
  | f :: L, o, h => by
    obtain ⟨dv, h0, h1, h3⟩ := h 0 f rfl
    obtain ⟨cs, hc, hj⟩ := Pl.cells (L := L) (o + 1) fun i g hg => by
      have := h (i + 1) g (by simpa using hg)
      rw [show o + 1 + i = o + (i + 1) by omega]
      exact this
    refine ⟨.int .i64 f.d :: dv :: cs, ⟨rfl, h3, hc⟩, fun j u hu => ?_⟩
    match j, hu with
    | 0, hu => simp at hu; subst hu; simpa using h0
    | 1, hu => simp at hu; subst hu; simpa using h1
    | j + 2, hu =>
      have := hj j u (by simpa using hu)
      rw [show o * 2 + (j + 2) = (o + 1) * 2 + j by omega]
      exact this

/-- 'out = append(out, xs...)', out a row of postings that the call itself made, xs whatever slice of postings, read in wx, which wr stands behind. -/
theorem append_posts_p {Q : Value → List Int → Prop} {ops : Array Oper} {rest : List Oper} {o : Oper} {a : Act} {Q' : Exit → Act → World → Prop} {wr : World} (hgd : o.guard = none) (s x : Operand)
    (ho : o.op = .call { callee := .builtin .append, args := #[s, x], argTypes := #[48, 48] }) {B : Nat} {pre L : List Pt} {v u : Value} {cs : List Value} (hs : a.eval s = v) (hx : a.eval x = u)
    (hu : Pl wr u L) (hQ : ∀ v z, Sl .i64 wr v z → Q v z) (hc1 : wr.ownsRow B 51 2 v pre.length cs) (hc2 : PCp Q cs pre) (hB : B ≤ wr.heap.size) (hlen : pre.length + L.length ≤ 4294967296)
    (h : ∀ v' w' cs', w'.ownsRow B 51 2 v' (pre ++ L).length cs' → PCp Q cs' (pre ++ L) → wr.grownBy w' v.ownBlock → wpList Try.prog ops Q' rest (a.put o.dst v') w') :
    wpList Try.prog ops Q' (o :: rest) a wr := by
  obtain ⟨i0, hi, hz0, hz1, hz2⟩ := info_parts Try.infoP
  obtain ⟨ao, cap, rfl, hl, hm, hn, hc⟩ := hu
  cases ao with
  | none =>
    have hcap := hn rfl
    subst hcap
    have hz0 : L = [] := List.eq_nil_of_length_eq_zero (by omega)
    subst hz0
    refine wpList_append_own_none hgd s x _ ho B 51 i0 2 Try.underlying48 hi v pre.length _ hs hc1 hx ?_
    exact h v wr cs (by simpa using hc1) (by simpa using hc2) ⟨rfl, rfl, rfl, Nat.le_refl _, fun _ _ _ => rfl⟩
  | some ad =>
    obtain ⟨ds, hd, hdj⟩ := Pl.cells (w := wr) (x := ad) (L := L) 0 fun i f hf => by simpa using hc ad rfl i f hf
    refine wpList_append_own _ hgd s x _ ho B 51 i0 _ 2 32 Try.underlying48 hi hz0 hz1 hz2 rfl (by decide) v pre.length _ hs hc1 ad L.length cap ds hx hd.len ?_ (PCp.ones (fun _ _ h => Sl.oneCell h) hd) ?_ ?_ hB ?_
    · intro j y hj
      have h0 := hdj j y hj
      simpa using h0
    · unfold maxLen; omega
    · omega
    · intro v' w1 hown' hg _
      exact h v' w1 _ (by simpa using hown') (hc2.append (hd.turn hQ)) hg

/-- The same, all that was there read at the call's beginning. -/
theorem append_posts {ops : Array Oper} {rest : List Oper} {o : Oper} {a : Act} {Q : Exit → Act → World → Prop} {w0 wr : World} (hgd : o.guard = none) (s x : Operand)
    (ho : o.op = .call { callee := .builtin .append, args := #[s, x], argTypes := #[48, 48] }) {B : Nat} {pre L : List Pt} {v u : Value} (hs : a.eval s = v) (hx : a.eval x = u)
    (hu : Pl w0 u L) (hown : PO B w0 wr v pre) (hbel : Below B w0 wr) (hw0 : w0.heap.size ≤ B) (hB : B ≤ wr.heap.size) (hlen : pre.length + L.length ≤ 4294967296)
    (h : ∀ v' w', PO B w0 w' v' (pre ++ L) → Below B w0 w' → wpList Try.prog ops Q rest (a.put o.dst v') w') :
    wpList Try.prog ops Q (o :: rest) a wr := by
  obtain ⟨i0, hi, hz0, hz1, hz2⟩ := info_parts Try.infoP
  obtain ⟨cs, hc1, hc2⟩ := hown
  obtain ⟨ao, cap, rfl, hl, hm, hn, hc⟩ := hu
  cases ao with
  | none =>
    have hcap := hn rfl
    subst hcap
    have hz0 : L = [] := List.eq_nil_of_length_eq_zero (by omega)
    subst hz0
    refine wpList_append_own_none hgd s x _ ho B 51 i0 2 Try.underlying48 hi v pre.length _ hs hc1 hx ?_
    exact h v wr ⟨cs, by simpa using hc1, by simpa using hc2⟩ hbel
  | some ad =>
    obtain ⟨ds, hd, hdj⟩ := Pl.cells (w := w0) (x := ad) (L := L) 0 fun i f hf => by simpa using hc ad rfl i f hf
    refine wpList_append_own _ hgd s x _ ho B 51 i0 _ 2 32 Try.underlying48 hi hz0 hz1 hz2 rfl (by decide) v pre.length _ hs hc1 ad L.length cap ds hx hd.len ?_ (PCp.ones (fun _ _ h => Sl.oneCell h) hd) ?_ ?_ hB ?_
    · intro j y hj
      have h0 := hdj j y hj
      simp only [Nat.zero_mul, Nat.zero_add] at h0
      rw [hbel.cell (Nat.lt_of_lt_of_le (World.block_lt_of_cell? w0 _ h0) hw0)]
      exact h0
    · unfold maxLen; omega
    · omega
    · intro v' w1 hown' hg _
      exact h v' w1 ⟨_, by simpa using hown', hc2.append hd⟩ (hbel.grown hg hB (fun j hj => (hc1.lt j hj).1))

/-- The postings from lo on, m of them. -/
theorem Pl.sub {w : World} {b off n cap : Nat} {L : List Pt} (h : Pl w (.slice (some ⟨b, off, none⟩) n cap) L) (lo m : Nat) (hm : lo + m ≤ n) :
    Pl w (.slice (some ⟨b, off + lo * 2, none⟩) m (cap - lo)) ((L.drop lo).take m) := by
  obtain ⟨a', cap', hv, hl, hm', hn, hc⟩ := h
  simp only [Value.slice.injEq] at hv
  obtain ⟨rfl, rfl, rfl⟩ := hv
  have hlen : ((L.drop lo).take m).length = m := by simp; omega
  refine ⟨_, cap - lo, by rw [hlen], by omega, by unfold maxLen at *; omega, (fun h => by cases h), fun x hx i p hi => ?_⟩
  obtain rfl := Option.some.inj hx
  have hij : i < m := by have := (List.getElem?_eq_some_iff.1 hi).1; omega
  have hi' : L[lo + i]? = some p := by
    rw [List.getElem?_take, if_pos hij, List.getElem?_drop] at hi
    exact hi
  obtain ⟨dv, h0, h1, h2⟩ := hc _ rfl (lo + i) p hi'
  rw [Addr.add_lit] at h0 h1
  refine ⟨dv, ?_, ?_, h2⟩
  · rw [Addr.add_lit, show off + lo * 2 + i * 2 = off + (lo + i) * 2 by omega]; exact h0
  · rw [Addr.add_lit, show off + lo * 2 + (i * 2 + 1) = off + ((lo + i) * 2 + 1) by omega]; exact h1

/-- No posting at all. -/
theorem Pl.zero {w : World} {a : Option Addr} {cap : Nat} (hm : cap ≤ maxLen) (hn : a = none → cap = 0) : Pl w (.slice a 0 cap) [] :=
  ⟨a, cap, rfl, Nat.zero_le _, hm, hn, fun _ _ i p h => by simp at h⟩

/-- A region that draws its order, and calls what makes memory, but answers the same in every world that has grown: walked once, in the order of the text. -/
theorem region_below {P : Program} {id : Nat} {Q : Exit → Act → World → Prop} {a : Act} {w : World} {l : List Oper} (hm : P.follows .mixedOrders = true) (hB : Region.lexB .any l.toArray = true)
    (h : wpQuiet P l.toArray (fun w' => Below w.heap.size w w') (fun a' => ∀ w', Below w.heap.size w w' → Q .normal a' w') l a) : (Code.region id l.toArray true).wp P Q a w :=
  wp_region_quiet (C := fun w' => Below w.heap.size w w') hm hB (Below.refl w.heap.size w).drew (by simpa using h)

theorem cell_keep {w w' : World} {a : Addr} {v : Value} (h : w.cell? a = some v) (hb : Below w.heap.size w w') : w'.cell? a = some v := (hb.cell (World.block_lt_of_cell? w a h)).trans h

/-! ### Rows of the call's own, side by side -/

theorem grown_set (w : World) (p : Addr) (u : Value) : w.grownBy (w.setCell p u) (some p.block) :=
  ⟨rfl, rfl, rfl, by have := ((Below.refl 0 w).setCell (p := p) (Nat.zero_le _) u).size; exact this, fun k _ hk => Below.heap_setCell w p u k (fun e => hk (by rw [e]))⟩

theorem grown_below {w w' : World} (h : Below w.heap.size w w') (row : Option Nat) : w.grownBy w' row := ⟨h.os, h.tape, h.output, h.size, fun k hk _ => h.block k hk⟩

theorem below_of_grown {w w' : World} {g B : Nat} (h : w.grownBy w' (some g)) (hg : B ≤ g) (hB : B ≤ w.heap.size) : Below B w w' :=
  ⟨h.os, h.tape, h.output, h.size, fun k hk => h.block k (by omega) (fun e => by simp at e; omega)⟩

theorem own_set {w : World} {B : Nat} {e : TypeId} {size : Nat} {v : Value} {n : Nat} {xs : List Value} (h : w.ownsRow B e size v n xs) {p : Addr} (hp : ∀ k, v.ownBlock = some k → k ≠ p.block) (u : Value) : (w.setCell p u).ownsRow B e size v n xs := by
  refine h.kept (grown_set w p u) ?_
  cases hv : v.ownBlock with
  | none => exact .inl rfl
  | some k => exact .inr fun e => hp k hv (Option.some.inj e)

theorem own_apart {w : World} {B B' : Nat} {e e' : TypeId} {size size' : Nat} {v v' : Value} {n n' : Nat} {xs xs' : List Value} (h : w.ownsRow B e size v n xs) (h' : w.ownsRow B' e' size' v' n' xs') (hne : e ≠ e') : v.ownBlock = none ∨ v.ownBlock ≠ v'.ownBlock := by
  rcases h.2 with ⟨rfl, _⟩ | ⟨g, cap, cur, rfl, _, hg, _⟩
  · exact .inl rfl
  · rcases h'.2 with ⟨rfl, _⟩ | ⟨g', cap', cur', rfl, _, hg', _⟩
    · exact .inr (by simp [Value.ownBlock])
    · refine .inr ?_
      simp only [Value.ownBlock, ne_eq, Option.some.injEq]
      intro e
      subst e
      rw [hg] at hg'
      simp only [Option.some.injEq, Obj.cells.injEq] at hg'
      exact hne hg'.2.1

/-- A row of places of the call's own. -/
def Pa (B : Nat) (w : World) (dv : Value) (z : List Int) : Prop := w.ownsRow B 3 1 dv z.length (z.map (Value.int .i64))
theorem Pa.one {B : Nat} {w : World} (v : Value) (z : List Int) (h : Pa B w v z) : v.oneCell' = true := (Sl.owned h).oneCell
theorem Pa.sl {B : Nat} {w : World} {v : Value} {z : List Int} (h : Pa B w v z) : Sl .i64 w v z := Sl.owned h

end Go.Proofs.Ytonhehhmnobciaa
