/-
  Texts put together: GBase.
-/
import Derived.Test.YtefnkbgkcjhkoaaQ03
import Derived.Deep.AppendLies
/-
  Plain facts on slices whose elements are one cell each, of whatever kind ('Gl': what a slice value reads as): that this stays behind draws and new memory; rows of the call's own that are made, stored into and appended to. No program is named here.
-/
namespace Go.Proofs.Ytefnkbgkcjhkoaa
set_option maxRecDepth 100000
open Go.RowKit

/-- The slice value v reads, in w, as the list l, each element as f has it. -/
def Gl {α : Type} (f : α → Value) (w : World) (v : Value) (l : List α) : Prop :=
  ∃ a cap, v = .slice a l.length cap ∧ l.length ≤ cap ∧ cap ≤ maxLen ∧ (a = none → cap = 0) ∧
    ∀ x, a = some x → ∀ i y, l[i]? = some y → w.cell? (x.add i) = some (f y)

section
variable {α : Type} {f : α → Value}

theorem Gl.nil (f : α → Value) (w : World) : Gl f w (.slice none 0 0) [] :=
  ⟨none, 0, rfl, Nat.le_refl _, Nat.zero_le _, fun _ => rfl, fun _ h => by cases h⟩

theorem Gl.open {w : World} {v : Value} {l : List α} (h : Gl f w v l) :
    ∃ a cap, v = .slice a l.length cap ∧ l.length ≤ cap ∧ cap ≤ 9223372036854775807 ∧ (a = none → cap = 0) ∧
      (0 < l.length → ∃ b off, a = some ⟨b, off, none⟩ ∧ b < w.heap.size ∧ ∀ i y, l[i]? = some y → w.cell? ⟨b, off + i, none⟩ = some (f y)) := by
  obtain ⟨a, cap, hv, hl, hm, hn, hc⟩ := h
  refine ⟨a, cap, hv, hl, hm, hn, fun hp => ?_⟩
  cases a with
  | none => have := hn rfl; omega
  | some x =>
    obtain ⟨b, off, spot⟩ := x
    have h0 := hc _ rfl 0 l[0] (List.getElem?_eq_getElem hp)
    have hs : spot = none := by simpa [Addr.add] using World.cell?_spot h0
    subst hs
    refine ⟨b, off, rfl, ?_, fun i y hi => by rw [← Addr.add_lit]; exact hc _ rfl i y hi⟩
    simpa [Addr.add] using World.block_lt_of_cell? w _ h0

theorem Gl.below {w w' : World} {v : Value} {l : List α} (h : Gl f w v l) (hb : Below w.heap.size w w') : Gl f w' v l := by
  obtain ⟨a, cap, hv, hl, hm, hn, hc⟩ := h
  refine ⟨a, cap, hv, hl, hm, hn, fun x hx i y hi => ?_⟩
  have h0 := hc x hx i y hi
  rw [hb.cell (World.block_lt_of_cell? w _ h0)]
  exact h0

theorem Gl.len {w : World} {v : Value} {l : List α} (h : Gl f w v l) : l.length ≤ 9223372036854775807 := by
  obtain ⟨a, cap, _, hl, hm, _⟩ := h
  unfold maxLen at hm
  omega

theorem Gl.owned {w : World} {base : Nat} {e : TypeId} {v : Value} {l : List α} {n : Nat} (h : w.ownsRow base e 1 v n (l.map f)) : Gl f w v l := by
  have hl := h.1
  simp only [List.length_map, Nat.mul_one] at hl
  subst hl
  rcases h.2 with ⟨rfl, h0⟩ | ⟨g, cap, cur, rfl, hb, hg, hn, hm, hs, ht⟩
  · have : l = [] := List.eq_nil_of_length_eq_zero h0
    subst this
    exact Gl.nil f w
  · refine ⟨_, cap, rfl, hn, hm, (fun h => by cases h), fun x hx i y hi => ?_⟩
    obtain rfl := Option.some.inj hx
    exact h.cells (g := g) rfl i (f y) (by simp [hi])

/-- One more is owned. -/
theorem own_snocG {B : Nat} {e : TypeId} {w0 wr w1 : World} {v v' : Value} {o : Obj} {pre : List α} {x : α} (hB : B ≤ wr.heap.size)
    (hown : wr.ownsRow B e 1 v pre.length (pre.map f)) (hb : Below B w0 wr)
    (hown' : w1.ownsRow B e 1 v' (pre.length + 1) (pre.map f ++ [f x])) (hg : (wr.alloc o).grownBy w1 v.ownBlock) :
    w1.ownsRow B e 1 v' (pre ++ [x]).length ((pre ++ [x]).map f) ∧ Below B w0 w1 :=
  ⟨by simpa using hown', (hb.alloc hB o).grown hg (by simp; omega) (fun j hj => (hown.lt j hj).1)⟩

theorem append_oneG {P : Program} {ops : Array Oper} {rest : List Oper} {o : Oper} {a : Act} {Q : Exit → Act → World → Prop} {w0 wr : World} (hgd : o.guard = none) (s x : Operand) (t : TypeId)
    (ho : o.op = .call { callee := .builtin .append, args := #[s, x], argTypes := #[t, t] }) {B : Nat} {e : TypeId} {i : TypeInfo} {z : Value} {bytes : Nat}
    (ht : P.underlying t = some (.slice e)) (hi : P.info? e = some i) (hz : i.zero = some z) (hsize : i.size = 1) (hby : i.bytes = bytes) (hzs : z.cells.size = 1)
    (hf : ∀ y, (f y).oneCell' = true) {pre : List α} {y : α} {v : Value} (hs : a.eval s = v) (hx : a.eval x = .slice (some ⟨wr.heap.size, 0, none⟩) 1 1)
    (hown : wr.ownsRow B e 1 v pre.length (pre.map f)) (hbel : Below B w0 wr) (hB : B ≤ wr.heap.size) (hlen : pre.length ≤ 4294967296) (hb8 : bytes ≤ 16)
    (h : ∀ v' w', w'.ownsRow B e 1 v' (pre ++ [y]).length ((pre ++ [y]).map f) → Below B w0 w' → wpList P ops Q rest (a.put o.dst v') w') :
    wpList P ops Q (o :: rest) a (wr.alloc (.cells #[f y] e)) := by
  refine wpList_append_own _ hgd s x t ho B e i z 1 bytes ht hi hz hsize hby hzs (by decide) v pre.length _ hs (hown.alloc _) ⟨wr.heap.size, 0, none⟩ 1 1 [f y] hx rfl ?_ ?_ ?_ ?_ ?_ ?_
  · intro j u hj
    match j, hj with
    | 0, hj => simp at hj; subst hj; simp [Addr.add]
  · intro u hu; simp at hu; subst hu; exact hf y
  · unfold maxLen; omega
  · have h1 : (pre.length + 1) * bytes ≤ 4294967297 * 16 := Nat.mul_le_mul (by omega) hb8
    omega
  · simp; omega
  · intro v' w1 hown' hg _
    have R := own_snocG hB hown hbel hown' hg
    exact h v' w1 R.1 R.2

theorem append_allG {P : Program} {ops : Array Oper} {rest : List Oper} {o : Oper} {a : Act} {Q : Exit → Act → World → Prop} {w0 wr : World} (hgd : o.guard = none) (s x : Operand) (t : TypeId)
    (ho : o.op = .call { callee := .builtin .append, args := #[s, x], argTypes := #[t, t] }) {B : Nat} {e : TypeId} {i : TypeInfo} {z : Value} {bytes : Nat}
    (ht : P.underlying t = some (.slice e)) (hi : P.info? e = some i) (hz : i.zero = some z) (hsize : i.size = 1) (hby : i.bytes = bytes) (hzs : z.cells.size = 1)
    (hf : ∀ y, (f y).oneCell' = true) {pre zs : List α} {v u : Value} (hs : a.eval s = v) (hx : a.eval x = u) (hu : Gl f wr u zs)
    (hown : wr.ownsRow B e 1 v pre.length (pre.map f)) (hbel : Below B w0 wr) (hB : B ≤ wr.heap.size) (hlen : pre.length + zs.length ≤ 4294967296) (hb8 : bytes ≤ 16)
    (h : ∀ v' w', w'.ownsRow B e 1 v' (pre ++ zs).length ((pre ++ zs).map f) → Below B w0 w' → wpList P ops Q rest (a.put o.dst v') w') :
    wpList P ops Q (o :: rest) a wr := by
  obtain ⟨ao, cap, rfl, hl, hm, hn, hc⟩ := hu
  cases ao with
  | none =>
    have hcap := hn rfl
    subst hcap
    have hz0 : zs = [] := List.eq_nil_of_length_eq_zero (by omega)
    subst hz0
    refine wpList_append_own_none hgd s x t ho B e i 1 ht hi v pre.length _ hs hown hx ?_
    exact h v wr (by simpa using hown) hbel
  | some ad =>
    refine wpList_append_own _ hgd s x t ho B e i z 1 bytes ht hi hz hsize hby hzs (by decide) v pre.length _ hs hown ad zs.length cap (zs.map f) hx (by simp) ?_ ?_ ?_ ?_ hB ?_
    · intro j y hj
      rw [List.getElem?_map] at hj
      obtain ⟨q, hq, rfl⟩ := Option.map_eq_some_iff.1 hj
      exact hc ad rfl j q hq
    · intro u hu
      obtain ⟨q, _, rfl⟩ := List.mem_map.1 hu
      exact hf q
    · unfold maxLen; omega
    · have h1 : (pre.length + zs.length) * bytes ≤ 4294967296 * 16 := Nat.mul_le_mul hlen hb8
      omega
    · intro v' w1 hown' hg _
      refine h v' w1 (by simpa using hown') (hbel.grown hg hB (fun j hj => (hown.lt j hj).1))

/-- 'make([]T, n)': a row of the call's own, of n zero elements. -/
theorem made_own (w : World) (e : TypeId) (z : α) (n : Nat) (hm : n ≤ maxLen) : (w.alloc (.cells (madeCells #[f z] n) e)).ownsRow w.heap.size e 1 (.slice (some ⟨w.heap.size, 0, none⟩) n n) (List.replicate n z).length ((List.replicate n z).map f) := by
  have h := World.ownsRow_lit (base := w.heap.size) (e := e) (size := 1) w (madeCells #[f z] n) n (Nat.le_refl _) hm (by simp [madeCells])
  rw [toList_madeCells_one] at h
  simpa using h

/-- What is read, and what is owned behind a store, in a row of the call's own. -/
theorem own_at {w : World} {B : Nat} {e : TypeId} {g n cap : Nat} {l : List α} (h : w.ownsRow B e 1 (.slice (some ⟨g, 0, none⟩) n cap) l.length (l.map f)) (hn : n = l.length) {j : Nat} {y : α} (hj : l[j]? = some y) : w.cell? ⟨g, j, none⟩ = some (f y) := by
  subst hn
  have hlt := (List.getElem?_eq_some_iff.1 hj).1
  rw [h.cellAt j (by omega)]
  simp [hj]

theorem own_put {w : World} {B : Nat} {e : TypeId} {g n cap : Nat} {l : List α} (h : w.ownsRow B e 1 (.slice (some ⟨g, 0, none⟩) n cap) l.length (l.map f)) (hn : n = l.length) (j : Nat) (y : α) :
    (w.setCell ⟨g, j, none⟩ (f y)).ownsRow B e 1 (.slice (some ⟨g, 0, none⟩) n cap) (l.set j y).length ((l.set j y).map f) := by
  subst hn
  have := (h.stored j (f y)).1
  rw [List.map_set]
  simpa using this
end
end Go.Proofs.Ytefnkbgkcjhkoaa
