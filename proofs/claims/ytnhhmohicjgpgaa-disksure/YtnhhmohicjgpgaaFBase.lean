/-
  Plain facts on slices of files as the walks need them: what a slice of files reads as ('Fl'), and that this stays behind draws and new memory. No function of the program is named here.
-/
import Derived.Test.YtnhhmohicjgpgaaRows
import Derived.Test.YtnhhmohicjgpgaaBase
namespace Go.Proofs.Ytnhhmohicjgpgaa
open Go.RowKit

/-- A file, as it reads. -/
structure Pf where
  nm : ByteArray
  da : List Int
  su : Bool

/-- Are two files the same? -/
def Pf.eqb (f g : Pf) : Bool := decide (f.nm = g.nm) && decide (f.da = g.da) && decide (f.su = g.su)
def Pf.eqs : List Pf → List Pf → Bool
  | [], [] => true
  | f :: L, g :: M => Pf.eqb f g && Pf.eqs L M
  | _, _ => false
theorem Pf.eqb_iff {f g : Pf} : Pf.eqb f g = true ↔ f = g := by
  cases f
  cases g
  simp [Pf.eqb, and_assoc]
theorem Pf.eqs_iff : ∀ {L M : List Pf}, Pf.eqs L M = true ↔ L = M
  | [], [] => by simp [Pf.eqs]
  | [], _ :: _ => by simp [Pf.eqs]
  | _ :: _, [] => by simp [Pf.eqs]
  | f :: L, g :: M => by simp [Pf.eqs, Pf.eqb_iff, Pf.eqs_iff]
theorem Pf.eqs_refl (L : List Pf) : Pf.eqs L L = true := Pf.eqs_iff.2 rfl
theorem Pf.eqb_not {f g : Pf} (h : ¬ f = g) : Pf.eqb f g = false := by rw [← Bool.not_eq_true, Pf.eqb_iff]; exact h
theorem Pf.eqs_not {L M : List Pf} (h : ¬ L = M) : Pf.eqs L M = false := by rw [← Bool.not_eq_true, Pf.eqs_iff]; exact h

theorem hide {p : Prop} (h : p) : Hid p := h
theorem unhide {p : Prop} (h : Hid p) : p := h
theorem below_all {w w1 : World} (h : Below w.heap.size w w1) (o : Obj) : Below w.heap.size w (w1.alloc o) := h.alloc h.size o
theorem below_dr {w w1 : World} (h : Below w.heap.size w w1) (n : Nat) : Below w.heap.size w (w1.drewN n) := ⟨h.os, h.tape, h.output, h.size, h.block⟩
theorem below_set {w w1 : World} (h : Below w.heap.size w w1) {p : Addr} (hp : w.heap.size ≤ p.block) (u : Value) : Below w.heap.size w (w1.setCell p u) := h.setCell hp u

/-- The slice value v reads, in w, as the files L. -/
def Fl (w : World) (v : Value) (L : List Pf) : Prop :=
  ∃ a cap, v = .slice a L.length cap ∧ L.length ≤ cap ∧ cap ≤ maxLen ∧ (a = none → cap = 0) ∧
    ∀ x, a = some x → ∀ i f, L[i]? = some f → ∃ dv, w.cell? (x.add (i * 3)) = some (.string f.nm) ∧ w.cell? (x.add (i * 3 + 1)) = some dv ∧ w.cell? (x.add (i * 3 + 2)) = some (.bool f.su) ∧ Sl .u8 w dv f.da

theorem Fl.nil (w : World) : Fl w (.slice none 0 0) [] := ⟨none, 0, rfl, Nat.le_refl _, Nat.zero_le _, fun _ => rfl, fun _ h => by cases h⟩

theorem Fl.below {w w' : World} {v : Value} {L : List Pf} (h : Fl w v L) (hb : Below w.heap.size w w') : Fl w' v L := by
  obtain ⟨a, cap, hv, hl, hm, hn, hc⟩ := h
  refine ⟨a, cap, hv, hl, hm, hn, fun x hx i f hi => ?_⟩
  obtain ⟨dv, h0, h1, h2, h3⟩ := hc x hx i f hi
  exact ⟨dv, by rw [hb.cell (World.block_lt_of_cell? w _ h0)]; exact h0, by rw [hb.cell (World.block_lt_of_cell? w _ h1)]; exact h1, by rw [hb.cell (World.block_lt_of_cell? w _ h2)]; exact h2, h3.below hb⟩

theorem Fl.drewN {w : World} {v : Value} {L : List Pf} (h : Fl w v L) (n : Nat) : Fl (w.drewN n) v L := h

theorem Fl.len {w : World} {v : Value} {L : List Pf} (h : Fl w v L) : L.length ≤ 9223372036854775807 := by
  obtain ⟨a, cap, _, hl, hm, _⟩ := h
  unfold maxLen at hm
  omega

/-- As it is used: the value, written out; where there is an element, a block and a place in it. -/
theorem Fl.open {w : World} {v : Value} {L : List Pf} (h : Fl w v L) :
    ∃ a cap, v = .slice a L.length cap ∧ L.length ≤ cap ∧ cap ≤ 9223372036854775807 ∧ (a = none → cap = 0) ∧
      (0 < L.length → ∃ b off, a = some ⟨b, off, none⟩ ∧ b < w.heap.size ∧ ∀ i f, L[i]? = some f → ∃ da dc, w.cell? ⟨b, off + i * 3, none⟩ = some (.string f.nm) ∧ w.cell? ⟨b, off + i * 3 + 1, none⟩ = some (.slice da f.da.length dc) ∧
        w.cell? ⟨b, off + i * 3 + 2, none⟩ = some (.bool f.su) ∧ Sl .u8 w (.slice da f.da.length dc) f.da) := by
  obtain ⟨a, cap, hv, hl, hm, hn, hc⟩ := h
  refine ⟨a, cap, hv, hl, hm, hn, fun hp => ?_⟩
  cases a with
  | none => have := hn rfl; omega
  | some x =>
    obtain ⟨b, off, spot⟩ := x
    obtain ⟨f0, hf0⟩ : ∃ f, L[0]? = some f := ⟨L[0], List.getElem?_eq_getElem hp⟩
    obtain ⟨dv, h0, _⟩ := hc _ rfl 0 f0 hf0
    have hs : spot = none := by simpa [Addr.add] using World.cell?_spot h0
    subst hs
    refine ⟨b, off, rfl, by simpa [Addr.add] using World.block_lt_of_cell? w _ h0, fun i f hf => ?_⟩
    obtain ⟨dv, g0, g1, g2, g3⟩ := hc _ rfl i f hf
    simp only [Addr.add_lit] at g0 g1 g2
    obtain ⟨da, dc, rfl, r⟩ := id g3
    exact ⟨da, dc, g0, by rw [Nat.add_assoc]; exact g1, by rw [Nat.add_assoc]; exact g2, g3⟩

/-- The three cells of each file, one behind the other; Q: what data is. -/
def FCp (Q : Value → List Int → Prop) : List Value → List Pf → Prop
  | [], [] => True
  | a :: b :: c :: cs, f :: L => a = .string f.nm ∧ Q b f.da ∧ c = .bool f.su ∧ FCp Q cs L
  | _, _ => False
abbrev FC (w : World) : List Value → List Pf → Prop := FCp (Sl .u8 w)

theorem FCp.len {Q : Value → List Int → Prop} : ∀ {cs : List Value} {L : List Pf}, FCp Q cs L → cs.length = L.length * 3
  | [], [], _ => rfl
  | a :: b :: c :: cs, f :: L, h => by have := FCp.len h.2.2.2; simp only [List.length_cons]; omega
  | [], _ :: _, h => h.elim
  | [_], _ :: _, h => h.elim
  | [_, _], _ :: _, h => h.elim
  | _ :: _, [], h => by simp [FCp] at h

theorem FCp.append {Q : Value → List Int → Prop} : ∀ {cs ds : List Value} {L M : List Pf}, FCp Q cs L → FCp Q ds M → FCp Q (cs ++ ds) (L ++ M)
  | [], _, [], _, _, h => h
  | a :: b :: c :: cs, _, f :: L, _, h, k => ⟨h.1, h.2.1, h.2.2.1, FCp.append h.2.2.2 k⟩
  | [], _, _ :: _, _, h, _ => h.elim
  | [_], _, _ :: _, _, h, _ => h.elim
  | [_, _], _, _ :: _, _, h, _ => h.elim
  | _ :: _, _, [], _, h, _ => by simp [FCp] at h

theorem FCp.turn {Q Q' : Value → List Int → Prop} (hw : ∀ v z, Q v z → Q' v z) : ∀ {cs : List Value} {L : List Pf}, FCp Q cs L → FCp Q' cs L
  | [], [], _ => trivial
  | a :: b :: c :: cs, f :: L, h => ⟨h.1, hw _ _ h.2.1, h.2.2.1, FCp.turn hw h.2.2.2⟩
  | [], _ :: _, h => h.elim
  | [_], _ :: _, h => h.elim
  | [_, _], _ :: _, h => h.elim
  | _ :: _, [], h => by simp [FCp] at h

theorem FCp.below {w w' : World} {cs : List Value} {L : List Pf} (h : FC w cs L) (hb : Below w.heap.size w w') : FC w' cs L := h.turn fun _ _ h => h.below hb

theorem FCp.at {Q : Value → List Int → Prop} : ∀ {cs : List Value} {L : List Pf}, FCp Q cs L → ∀ i f, L[i]? = some f → ∃ dv, cs[i * 3]? = some (.string f.nm) ∧ cs[i * 3 + 1]? = some dv ∧ cs[i * 3 + 2]? = some (.bool f.su) ∧ Q dv f.da
  | [], [], _, i, f, hf => by simp at hf
  | a :: b :: c :: cs, g :: L, h, i, f, hf => by
    cases i with
    | zero =>
      simp at hf
      subst hf
      exact ⟨b, by simp [h.1], by simp, by simp [h.2.2.1], h.2.1⟩
    | succ i =>
      obtain ⟨dv, h0, h1, h2, h3⟩ := FCp.at h.2.2.2 i f (by simpa using hf)
      have e0 : (i + 1) * 3 = i * 3 + 1 + 1 + 1 := by omega
      exact ⟨dv, by rw [e0]; simpa using h0, by rw [e0]; simpa using h1, by rw [e0]; simpa using h2, h3⟩
  | [], _ :: _, h, _, _, _ => h.elim
  | [_], _ :: _, h, _, _, _ => h.elim
  | [_, _], _ :: _, h, _, _, _ => h.elim
  | _ :: _, [], h, _, _, _ => by simp [FCp] at h

/-- The slice value v is a row of the call's own, from block B on, that holds the files L; their data are read in w0. -/
def FO (B : Nat) (w0 w : World) (v : Value) (L : List Pf) : Prop := ∃ cs, w.ownsRow B 48 3 v L.length cs ∧ FC w0 cs L

theorem FO.nil (B : Nat) (w0 w : World) : FO B w0 w (.slice none 0 0) [] := ⟨[], World.ownsRow_nil _ _ _ _, trivial⟩

theorem FO.fl {B : Nat} {w0 w : World} {v : Value} {L : List Pf} (h : FO B w0 w v L) (hs : ∀ v z, Sl .u8 w0 v z → Sl .u8 w v z) : Fl w v L := by
  obtain ⟨cs, ho, hc⟩ := h
  rcases id ho.2 with ⟨rfl, h0⟩ | ⟨g, cap, cur, rfl, hb, hg, hn, hm, _⟩
  · have : L = [] := List.eq_nil_of_length_eq_zero h0
    subst this
    exact Fl.nil w
  · refine ⟨_, cap, rfl, hn, hm, (fun h => by cases h), fun x hx i f hi => ?_⟩
    obtain rfl := Option.some.inj hx
    obtain ⟨dv, h0, h1, h2, h3⟩ := hc.at i f hi
    exact ⟨dv, ho.cells (g := g) rfl _ _ h0, ho.cells (g := g) rfl _ _ h1, ho.cells (g := g) rfl _ _ h2, hs _ _ h3⟩

theorem FO.alloc {B : Nat} {w0 w : World} {v : Value} {L : List Pf} (h : FO B w0 w v L) (o : Obj) : FO B w0 (w.alloc o) v L := by
  obtain ⟨cs, ho, hc⟩ := h
  exact ⟨cs, ho.alloc o, hc⟩

theorem Try.info48 : (Try.prog.info? 48).map (fun i => (i.zero, i.size, i.bytes)) = some (some (.agg #[.string ⟨#[]⟩, .slice none 0 0, .bool false]), 3, 48) := by kernel_rfl

theorem FCp.one {Q : Value → List Int → Prop} {dv : Value} {f : Pf} (h : Q dv f.da) : FCp Q [.string f.nm, dv, .bool f.su] [f] := ⟨rfl, h, rfl, trivial⟩

theorem Sl.oneCell {k : IntKind} {w : World} {v : Value} {zs : List Int} (h : Sl k w v zs) : v.oneCell' = true := by
  obtain ⟨a, cap, rfl, _⟩ := h
  rfl

theorem FCp.ones {Q : Value → List Int → Prop} (hq : ∀ v z, Q v z → v.oneCell' = true) : ∀ {cs : List Value} {L : List Pf}, FCp Q cs L → ∀ u ∈ cs, u.oneCell' = true
  | [], [], _, u, hu => by simp at hu
  | a :: b :: c :: cs, g :: L, h, u, hu => by
    simp only [List.mem_cons] at hu
    rcases hu with rfl | rfl | rfl | hu
    · rw [h.1]; rfl
    · exact hq _ _ h.2.1
    · rw [h.2.2.1]; rfl
    · exact FCp.ones hq h.2.2.2 u hu
  | [], _ :: _, h, _, _ => h.elim
  | [_], _ :: _, h, _, _ => h.elim
  | [_, _], _ :: _, h, _, _ => h.elim
  | _ :: _, [], h, _, _ => by simp [FCp] at h

/-- 'out = append(out, f)', out a row of files that the call itself made; Q: what data is. -/
theorem append_file_p {Q : Value → List Int → Prop} (hq : ∀ v z, Q v z → v.oneCell' = true) {ops : Array Oper} {rest : List Oper} {o : Oper} {a : Act} {Q' : Exit → Act → World → Prop} {wr : World} (hgd : o.guard = none) (s x : Operand)
    (ho : o.op = .call { callee := .builtin .append, args := #[s, x], argTypes := #[22, 22] }) {B : Nat} {pre : List Pf} {v : Value} {f : Pf} {dv : Value} {cs : List Value} (hs : a.eval s = v) {n : Nat} (hx : a.eval x = .slice (some ⟨n, 0, none⟩) 1 1) (hn : n = wr.heap.size)
    (hc1 : wr.ownsRow B 48 3 v pre.length cs) (hc2 : FCp Q cs pre) (hf : Q dv f.da) (hB : B ≤ wr.heap.size) (hlen : pre.length ≤ 4294967296)
    (h : ∀ v' w' cs', w'.ownsRow B 48 3 v' (pre ++ [f]).length cs' → FCp Q cs' (pre ++ [f]) → wr.grownBy w' v.ownBlock → wpList Try.prog ops Q' rest (a.put o.dst v') w') :
    wpList Try.prog ops Q' (o :: rest) a (wr.alloc (.cells #[.string f.nm, dv, .bool f.su] 48)) := by
  obtain ⟨i0, hi, hz0, hz1, hz2⟩ := info_parts Try.info48
  subst hn
  refine wpList_append_own _ hgd s x _ ho B 48 i0 _ 3 48 Try.underlying22 hi hz0 hz1 hz2 rfl (by decide) v pre.length _ hs (hc1.alloc _) ⟨wr.heap.size, 0, none⟩ 1 1 [.string f.nm, dv, .bool f.su] hx rfl ?_ (FCp.ones hq (FCp.one hf)) ?_ ?_ ?_ ?_
  · intro j u hj
    match j, hj with
    | 0, hj => simp at hj; subst hj; simp [Addr.add]
    | 1, hj => simp at hj; subst hj; simp [Addr.add]
    | 2, hj => simp at hj; subst hj; simp [Addr.add]
  · unfold maxLen; omega
  · omega
  · simp; omega
  · intro v' w1 hown' hg _
    exact h v' w1 _ (by simpa using hown') (hc2.append (FCp.one hf)) ((World.grownBy_alloc _ _ _).trans hg)

/-- 'out = append(out, f)', out a row of files that the call itself made. -/
theorem append_file {ops : Array Oper} {rest : List Oper} {o : Oper} {a : Act} {Q : Exit → Act → World → Prop} {w0 wr : World} (hgd : o.guard = none) (s x : Operand)
    (ho : o.op = .call { callee := .builtin .append, args := #[s, x], argTypes := #[22, 22] }) {B : Nat} {pre : List Pf} {v : Value} {f : Pf} {dv : Value} (hs : a.eval s = v) {n : Nat} (hx : a.eval x = .slice (some ⟨n, 0, none⟩) 1 1) (hn : n = wr.heap.size)
    (hown : FO B w0 wr v pre) (hf : Sl .u8 w0 dv f.da) (hbel : Below B w0 wr) (hB : B ≤ wr.heap.size) (hlen : pre.length ≤ 4294967296)
    (h : ∀ v' w', FO B w0 w' v' (pre ++ [f]) → Below B w0 w' → wr.grownBy w' v.ownBlock → wpList Try.prog ops Q rest (a.put o.dst v') w') :
    wpList Try.prog ops Q (o :: rest) a (wr.alloc (.cells #[.string f.nm, dv, .bool f.su] 48)) := by
  obtain ⟨cs, hc1, hc2⟩ := hown
  refine append_file_p (fun _ _ h => Sl.oneCell h) hgd s x ho hs hx hn hc1 hc2 hf hB hlen ?_
  intro v' w' cs' h1 h2 h3
  exact h v' w' ⟨cs', h1, h2⟩ (hbel.grown h3 hB (fun j hj => (hc1.lt j hj).1)) h3

/-- The cells of files that a slice holds, as a list. -/
theorem Fl.cells {w : World} {x : Addr} {cap : Nat} : ∀ {L : List Pf} (o : Nat), (∀ i f, L[i]? = some f → ∃ dv, w.cell? (x.add ((o + i) * 3)) = some (.string f.nm) ∧ w.cell? (x.add ((o + i) * 3 + 1)) = some dv ∧ w.cell? (x.add ((o + i) * 3 + 2)) = some (.bool f.su) ∧ Sl .u8 w dv f.da) →
    ∃ cs, FC w cs L ∧ ∀ j u, cs[j]? = some u → w.cell? (x.add (o * 3 + j)) = some u
  | [], _, _ => ⟨[], trivial, fun j u h => by simp at h⟩
  | f :: L, o, h => by
    obtain ⟨dv, h0, h1, h2, h3⟩ := h 0 f rfl
    obtain ⟨cs, hc, hj⟩ := Fl.cells (cap := cap) (L := L) (o + 1) fun i g hg => by
      have := h (i + 1) g (by simpa using hg)
      rw [show o + 1 + i = o + (i + 1) by omega]
      exact this
    refine ⟨.string f.nm :: dv :: .bool f.su :: cs, ⟨rfl, h3, rfl, hc⟩, fun j u hu => ?_⟩
    match j, hu with
    | 0, hu => simp at hu; subst hu; simpa using h0
    | 1, hu => simp at hu; subst hu; simpa using h1
    | 2, hu => simp at hu; subst hu; simpa using h2
    | j + 3, hu =>
      have := hj j u (by simpa using hu)
      rw [show o * 3 + (j + 3) = (o + 1) * 3 + j by omega]
      exact this

/-- 'out = append(out, xs...)', out a row of files that the call itself made, xs whatever slice of files. -/
theorem append_files {ops : Array Oper} {rest : List Oper} {o : Oper} {a : Act} {Q : Exit → Act → World → Prop} {w0 wr : World} (hgd : o.guard = none) (s x : Operand)
    (ho : o.op = .call { callee := .builtin .append, args := #[s, x], argTypes := #[22, 22] }) {B : Nat} {pre L : List Pf} {v u : Value} (hs : a.eval s = v) (hx : a.eval x = u)
    (hu : Fl w0 u L) (hown : FO B w0 wr v pre) (hbel : Below B w0 wr) (hw0 : w0.heap.size ≤ B) (hB : B ≤ wr.heap.size) (hlen : pre.length + L.length ≤ 4294967296)
    (h : ∀ v' w', FO B w0 w' v' (pre ++ L) → Below B w0 w' → wpList Try.prog ops Q rest (a.put o.dst v') w') :
    wpList Try.prog ops Q (o :: rest) a wr := by
  obtain ⟨i0, hi, hz0, hz1, hz2⟩ := info_parts Try.info48
  obtain ⟨cs, hc1, hc2⟩ := hown
  obtain ⟨ao, cap, rfl, hl, hm, hn, hc⟩ := hu
  cases ao with
  | none =>
    have hcap := hn rfl
    subst hcap
    have hz0 : L = [] := List.eq_nil_of_length_eq_zero (by omega)
    subst hz0
    refine wpList_append_own_none hgd s x _ ho B 48 i0 3 Try.underlying22 hi v pre.length _ hs hc1 hx ?_
    exact h v wr ⟨cs, by simpa using hc1, by simpa using hc2⟩ hbel
  | some ad =>
    obtain ⟨ds, hd, hdj⟩ := Fl.cells (cap := cap) (w := w0) (x := ad) (L := L) 0 fun i f hf => by simpa using hc ad rfl i f hf
    refine wpList_append_own _ hgd s x _ ho B 48 i0 _ 3 48 Try.underlying22 hi hz0 hz1 hz2 rfl (by decide) v pre.length _ hs hc1 ad L.length cap ds hx hd.len ?_ (FCp.ones (fun _ _ h => Sl.oneCell h) hd) ?_ ?_ hB ?_
    · intro j y hj
      have h0 := hdj j y hj
      simp only [Nat.zero_mul, Nat.zero_add] at h0
      rw [hbel.cell (Nat.lt_of_lt_of_le (World.block_lt_of_cell? w0 _ h0) hw0)]
      exact h0
    · unfold maxLen; omega
    · omega
    · intro v' w1 hown' hg _
      exact h v' w1 ⟨_, by simpa using hown', hc2.append hd⟩ (hbel.grown hg hB (fun j hj => (hc1.lt j hj).1))

end Go.Proofs.Ytnhhmohicjgpgaa
