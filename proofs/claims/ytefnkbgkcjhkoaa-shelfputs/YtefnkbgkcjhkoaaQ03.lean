/-
  Texts put together: Base.
-/
import Derived.WalkKit
import Derived.WalkSpells
import Derived.WalkLawsBesides
import Derived.Laws.AppendOwnNone
/-
  Plain facts on slices of integers as the walks need them: what a slice value reads as ('Sl'), and that this stays behind draws and new memory. No program is named here.
-/
namespace Go.Proofs.Ytefnkbgkcjhkoaa
set_option maxRecDepth 100000
open Go.RowKit

/-- The slice value v reads, in w, as the numbers zs of kind k. -/
def Sl (k : IntKind) (w : World) (v : Value) (zs : List Int) : Prop :=
  ∃ a cap, v = .slice a zs.length cap ∧ zs.length ≤ cap ∧ cap ≤ maxLen ∧ (a = none → cap = 0) ∧
    ∀ x, a = some x → ∀ i, i < zs.length → w.cell? (x.add i) = some (.int k (zs.getD i 0))

theorem Sl.nil (k : IntKind) (w : World) : Sl k w (.slice none 0 0) [] :=
  ⟨none, 0, rfl, Nat.le_refl _, Nat.zero_le _, fun _ => rfl, fun _ h => by cases h⟩

/-- As it is used: the value, written out; where there is an element, a block and a place in it. -/
theorem Sl.open {k : IntKind} {w : World} {v : Value} {zs : List Int} (h : Sl k w v zs) :
    ∃ a cap, v = .slice a zs.length cap ∧ zs.length ≤ cap ∧ cap ≤ 9223372036854775807 ∧ (a = none → cap = 0) ∧
      (0 < zs.length → ∃ b off, a = some ⟨b, off, none⟩ ∧ b < w.heap.size ∧ ∀ i, i < zs.length → w.cell? ⟨b, off + i, none⟩ = some (.int k (zs.getD i 0))) := by
  obtain ⟨a, cap, hv, hl, hm, hn, hc⟩ := h
  refine ⟨a, cap, hv, hl, hm, hn, fun hp => ?_⟩
  cases a with
  | none => have := hn rfl; omega
  | some x =>
    obtain ⟨b, off, spot⟩ := x
    have h0 := hc _ rfl 0 hp
    have hs : spot = none := by simpa [Addr.add] using World.cell?_spot h0
    subst hs
    refine ⟨b, off, rfl, ?_, fun i hi => by rw [← Addr.add_lit]; exact hc _ rfl i hi⟩
    simpa [Addr.add] using World.block_lt_of_cell? w _ h0

/-- Below a number that the heap had, all stays. -/
theorem Sl.below {k : IntKind} {w w' : World} {v : Value} {zs : List Int} (h : Sl k w v zs) (hb : Below w.heap.size w w') : Sl k w' v zs := by
  obtain ⟨a, cap, hv, hl, hm, hn, hc⟩ := h
  refine ⟨a, cap, hv, hl, hm, hn, fun x hx i hi => ?_⟩
  have h0 := hc x hx i hi
  rw [hb.cell (World.block_lt_of_cell? w _ h0)]
  exact h0

theorem Sl.drewN {k : IntKind} {w : World} {v : Value} {zs : List Int} (h : Sl k w v zs) (n : Nat) : Sl k (w.drewN n) v zs := h

/-- What a call owns it can read. -/
theorem Sl.owned {k : IntKind} {w : World} {base : Nat} {e : TypeId} {v : Value} {zs : List Int} {n : Nat} (h : w.ownsRow base e 1 v n (zs.map (Value.int k))) : Sl k w v zs := by
  have hl := h.1
  simp only [List.length_map, Nat.mul_one] at hl
  subst hl
  rcases h.2 with ⟨rfl, h0⟩ | ⟨g, cap, cur, rfl, hb, hg, hn, hm, hs, ht⟩
  · have : zs = [] := List.eq_nil_of_length_eq_zero h0
    subst this
    exact Sl.nil k w
  · refine ⟨_, cap, rfl, hn, hm, (fun h => by cases h), fun x hx i hi => ?_⟩
    obtain rfl := Option.some.inj hx
    have hc := h.cells (g := g) rfl i (.int k (zs.getD i 0)) (by simp [List.getD, List.getElem?_eq_getElem hi])
    exact hc

/-- A slice cut to its places from i to j. -/
theorem Sl.len {k : IntKind} {w : World} {v : Value} {zs : List Int} (h : Sl k w v zs) : zs.length ≤ 9223372036854775807 := by
  obtain ⟨a, cap, _, hl, hm, _⟩ := h
  unfold maxLen at hm
  omega

theorem below_trans' {w w1 w2 : World} (h : Below w.heap.size w w1) (k : Below w1.heap.size w1 w2) : Below w.heap.size w w2 := h.trans (k.mono h.size)

/-- One number more is owned. -/
theorem own_snoc {k : IntKind} {B : Nat} {e : TypeId} {w0 wr w1 : World} {v v' : Value} {o : Obj} {pre : List Int} {x : Int} (hB : B ≤ wr.heap.size)
    (hown : wr.ownsRow B e 1 v pre.length (pre.map (Value.int k))) (hb : Below B w0 wr)
    (hown' : w1.ownsRow B e 1 v' (pre.length + 1) (pre.map (Value.int k) ++ [.int k x])) (hg : (wr.alloc o).grownBy w1 v.ownBlock) :
    w1.ownsRow B e 1 v' (pre ++ [x]).length ((pre ++ [x]).map (Value.int k)) ∧ Below B w0 w1 :=
  ⟨by simpa using hown', (hb.alloc hB o).grown hg (by simp; omega) (fun j hj => (hown.lt j hj).1)⟩

/-- 'out = append(out, y)', out a row of numbers that the call itself made: the walk goes on with one number more. -/
theorem append_one {P : Program} {ops : Array Oper} {rest : List Oper} {o : Oper} {a : Act} {Q : Exit → Act → World → Prop} {w0 wr : World} (hgd : o.guard = none) (s x : Operand) (t : TypeId)
    (ho : o.op = .call { callee := .builtin .append, args := #[s, x], argTypes := #[t, t] }) {B : Nat} {e : TypeId} {i : TypeInfo} {z : Value} {bytes : Nat}
    (ht : P.underlying t = some (.slice e)) (hi : P.info? e = some i) (hz : i.zero = some z) (hsize : i.size = 1) (hby : i.bytes = bytes) (hzs : z.cells.size = 1)
    {k : IntKind} {pre : List Int} {y : Int} {v : Value} (hs : a.eval s = v) (hx : a.eval x = .slice (some ⟨wr.heap.size, 0, none⟩) 1 1)
    (hown : wr.ownsRow B e 1 v pre.length (pre.map (Value.int k))) (hbel : Below B w0 wr) (hB : B ≤ wr.heap.size) (hlen : pre.length ≤ 4294967296) (hb8 : bytes ≤ 16)
    (h : ∀ v' w', w'.ownsRow B e 1 v' (pre ++ [y]).length ((pre ++ [y]).map (Value.int k)) → Below B w0 w' → wpList P ops Q rest (a.put o.dst v') w') :
    wpList P ops Q (o :: rest) a (wr.alloc (.cells #[.int k y] e)) := by
  refine wpList_append_own _ hgd s x t ho B e i z 1 bytes ht hi hz hsize hby hzs (by decide) v pre.length _ hs (hown.alloc _) ⟨wr.heap.size, 0, none⟩ 1 1 [.int k y] hx rfl ?_ ?_ ?_ ?_ ?_ ?_
  · intro j u hj
    match j, hj with
    | 0, hj => simp at hj; subst hj; simp [Addr.add]
  · intro u hu; simp at hu; subst hu; rfl
  · unfold maxLen; omega
  · have h1 : (pre.length + 1) * bytes ≤ 4294967297 * 16 := Nat.mul_le_mul (by omega) hb8
    omega
  · simp; omega
  · intro v' w1 hown' hg _
    have R := own_snoc hB hown hbel hown' hg
    exact h v' w1 R.1 R.2

theorem own_mono {w : World} {B B' : Nat} {e : TypeId} {size : Nat} {v : Value} {n : Nat} {xs : List Value} (h : w.ownsRow B e size v n xs) (hB : B' ≤ B) : w.ownsRow B' e size v n xs := by
  obtain ⟨h1, h2⟩ := h
  refine ⟨h1, ?_⟩
  rcases h2 with h2 | ⟨g, cap, cur, hv, hg, r⟩
  · exact .inl h2
  · exact .inr ⟨g, cap, cur, hv, Nat.le_trans hB hg, r⟩

/-- A literal slice that has just been laid. -/
theorem Sl.lit {k : IntKind} {e : TypeId} {w : World} {cs : Array Value} (zs : List Int) {n : Nat} (hn : zs.length = n) (h : cs.toList = zs.map (Value.int k)) (hl : n ≤ 4294967296) :
    Sl k (w.alloc (.cells cs e)) (.slice (some ⟨w.heap.size, 0, none⟩) n n) zs := by
  have hs : cs.size = n * 1 := by
    have := congrArg List.length h
    simp at this
    omega
  have ho := World.ownsRow_lit (base := 0) (size := 1) (e := e) w cs n (Nat.zero_le _) (by unfold maxLen; omega) hs
  rw [h] at ho
  exact Sl.owned ho

theorem below_alloc (w : World) (o : Obj) : Below w.heap.size w (w.alloc o) := (Below.refl _ _).alloc (Nat.le_refl _) o

theorem own_below {w w' : World} {B : Nat} {e : TypeId} {size : Nat} {v : Value} {n : Nat} {xs : List Value} (h : w.ownsRow B e size v n xs) (hb : Below w.heap.size w w') : w'.ownsRow B e size v n xs := by
  refine ⟨h.1, ?_⟩
  rcases h.2 with hn | ⟨g, cap, cur, rfl, hB, hgg, rest⟩
  · exact .inl hn
  · refine .inr ⟨g, cap, cur, rfl, hB, ?_, rest⟩
    rw [hb.block g (Array.getElem?_eq_some_iff.1 hgg).1]
    exact hgg

/-- The first j elements. -/
theorem Sl.take {k : IntKind} {w : World} {a : Option Addr} {n cap : Nat} {zs : List Int} (h : Sl k w (.slice a n cap) zs) (j : Nat) (hj : j ≤ n) : Sl k w (.slice a j cap) (zs.take j) := by
  obtain ⟨a', cap', hv, hl, hm, hn, hc⟩ := h
  simp only [Value.slice.injEq] at hv
  obtain ⟨rfl, rfl, rfl⟩ := hv
  have hlen : (zs.take j).length = j := by simp; omega
  refine ⟨a, cap, by rw [hlen], by omega, hm, hn, fun x hx i hi => ?_⟩
  rw [hc x hx i (by omega)]
  have hij : i < j := by omega
  have hi2 : i < zs.length := by omega
  simp [List.getD, hij]

/-- 'out = append(out, xs...)', out a row of numbers that the call itself made, xs whatever slice of numbers. -/
theorem append_all {P : Program} {ops : Array Oper} {rest : List Oper} {o : Oper} {a : Act} {Q : Exit → Act → World → Prop} {w0 wr : World} (hgd : o.guard = none) (s x : Operand) (t : TypeId)
    (ho : o.op = .call { callee := .builtin .append, args := #[s, x], argTypes := #[t, t] }) {B : Nat} {e : TypeId} {i : TypeInfo} {z : Value} {bytes : Nat}
    (ht : P.underlying t = some (.slice e)) (hi : P.info? e = some i) (hz : i.zero = some z) (hsize : i.size = 1) (hby : i.bytes = bytes) (hzs : z.cells.size = 1)
    {k : IntKind} {pre zs : List Int} {v u : Value} (hs : a.eval s = v) (hx : a.eval x = u) (hu : Sl k wr u zs)
    (hown : wr.ownsRow B e 1 v pre.length (pre.map (Value.int k))) (hbel : Below B w0 wr) (hB : B ≤ wr.heap.size) (hlen : pre.length + zs.length ≤ 4294967296) (hb8 : bytes ≤ 16)
    (h : ∀ v' w', w'.ownsRow B e 1 v' (pre ++ zs).length ((pre ++ zs).map (Value.int k)) → Below B w0 w' → wpList P ops Q rest (a.put o.dst v') w') :
    wpList P ops Q (o :: rest) a wr := by
  obtain ⟨ao, cap, rfl, hl, hm, hn, hc⟩ := hu
  cases ao with
  | none =>
    have hcap := hn rfl
    subst hcap
    have hz0 : zs = [] := List.eq_nil_of_length_eq_zero (by omega)
    subst hz0
    refine wpList_append_own_none hgd s x t ho B e i 1 ht hi v pre.length _ hs hown hx ?_
    exact h v wr (by simpa using hown) hbel
  | some ad =>
    refine wpList_append_own _ hgd s x t ho B e i z 1 bytes ht hi hz hsize hby hzs (by decide) v pre.length _ hs hown ad zs.length cap (zs.map (Value.int k)) hx (by simp) ?_ (ints_oneCell _ _) ?_ ?_ hB ?_
    · intro j y hj
      have hjl : j < zs.length := by simpa using (List.getElem?_eq_some_iff.1 hj).1
      rw [hc ad rfl j hjl]
      simp [List.getElem?_eq_getElem hjl] at hj
      simp [List.getElem?_eq_getElem hjl, hj]
    · unfold maxLen; omega
    · have h1 : (pre.length + zs.length) * bytes ≤ 4294967296 * 16 := Nat.mul_le_mul hlen hb8
      omega
    · intro v' w1 hown' hg _
      refine h v' w1 (by simpa using hown') (hbel.grown hg hB (fun j hj => (hown.lt j hj).1))

/-- The elements from lo to hi. -/
theorem Sl.sub {k : IntKind} {w : World} {b off n cap : Nat} {zs : List Int} (h : Sl k w (.slice (some ⟨b, off, none⟩) n cap) zs) (lo m : Nat) (hm : lo + m ≤ n) :
    Sl k w (.slice (some ⟨b, off + lo, none⟩) m (cap - lo)) ((zs.drop lo).take m) := by
  obtain ⟨a', cap', hv, hl, hm', hn, hc⟩ := h
  simp only [Value.slice.injEq] at hv
  obtain ⟨rfl, rfl, rfl⟩ := hv
  have hlen : ((zs.drop lo).take m).length = m := by simp; omega
  refine ⟨_, cap - lo, by rw [hlen], by omega, by unfold maxLen at *; omega, (fun h => by cases h), fun x hx i hi => ?_⟩
  obtain rfl := Option.some.inj hx
  have hc' := hc _ rfl (lo + i) (by omega)
  rw [Addr.add_lit] at hc'
  rw [Addr.add_lit, Nat.add_assoc, hc']
  have hij : i < m := by omega
  simp [List.getD, hij]

theorem ret_true {b : Bool} (h : b = true) : Ending.returned (.bool b) = .returned (.bool true) := by rw [h]

end Go.Proofs.Ytefnkbgkcjhkoaa
