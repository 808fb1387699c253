/-
  'out = append(out, xs...)' at numbers, with what stays beside it: every block but the row's own.
-/
import Derived.Test.YtonhehhmnobciaaPBase
import Derived.Deep.AppendLies
namespace Go.Proofs.Ytonhehhmnobciaa
set_option maxRecDepth 100000
open Go.RowKit

theorem own_ne_box {w : World} {B : Nat} {e T : TypeId} {K : Nat} {v : Value} {n : Nat} {xs : List Value} {b : Nat} {cs : Array Value} {fr : Nat × Nat} (o : w.ownsRow B e K v n xs) (hb : w.heap[b]? = some (.cells cs T fr)) (hTe : T ≠ e) : some b ≠ v.ownBlock := by
  intro h
  rcases o.2 with ⟨rfl, _⟩ | ⟨g, cap, cur, rfl, _, hg, _⟩
  · cases h
  · simp only [Value.ownBlock, Option.some.injEq] at h
    subst h
    rw [hg] at hb
    simp only [Option.some.injEq, Obj.cells.injEq] at hb
    exact hTe hb.2.1.symm

theorem box_below {w w' : World} {b : Nat} {o : Obj} (h : w.heap[b]? = some o) (hb : Below w.heap.size w w') : w'.heap[b]? = some o := by
  rw [hb.block b (Array.getElem?_eq_some_iff.1 h).1]
  exact h

theorem box_grown {w w' : World} {b : Nat} {o : Obj} {row : Option Nat} (h : w.heap[b]? = some o) (hg : w.grownBy w' row) (hne : some b ≠ row) : w'.heap[b]? = some o := by
  rw [hg.block b (Array.getElem?_eq_some_iff.1 h).1 hne]
  exact h

theorem box_cell {w : World} {b : Nat} {cs : Array Value} {T : TypeId} {fr : Nat × Nat} (h : w.heap[b]? = some (.cells cs T fr)) {j : Nat} {u : Value} (hu : cs[j]? = some u) : w.cell? ⟨b, j, none⟩ = some u := by simp [World.cell?, h, hu]

theorem append_allK {P : Program} {ops : Array Oper} {rest : List Oper} {o : Oper} {a : Act} {Q : Exit → Act → World → Prop} {w0 wr : World} (hgd : o.guard = none) (s x : Operand) (t : TypeId)
    (ho : o.op = .call { callee := .builtin .append, args := #[s, x], argTypes := #[t, t] }) {B : Nat} {e : TypeId} {i : TypeInfo} {z : Value} {bytes : Nat}
    (ht : P.underlying t = some (.slice e)) (hi : P.info? e = some i) (hz : i.zero = some z) (hsize : i.size = 1) (hby : i.bytes = bytes) (hzs : z.cells.size = 1)
    {k : IntKind} {pre zs : List Int} {v u : Value} (hs : a.eval s = v) (hx : a.eval x = u) (hu : Sl k wr u zs)
    (hown : wr.ownsRow B e 1 v pre.length (pre.map (Value.int k))) (hbel : Below B w0 wr) (hB : B ≤ wr.heap.size) (hlen : pre.length + zs.length ≤ 4294967296) (hb8 : bytes ≤ 16)
    (h : ∀ v' w', w'.ownsRow B e 1 v' (pre ++ zs).length ((pre ++ zs).map (Value.int k)) → Below B w0 w' → wr.grownBy w' v.ownBlock → wpList P ops Q rest (a.put o.dst v') w') :
    wpList P ops Q (o :: rest) a wr := by
  obtain ⟨ao, cap, rfl, hl, hm, hn, hc⟩ := hu
  cases ao with
  | none =>
    have hcap := hn rfl
    subst hcap
    have hz0 : zs = [] := List.eq_nil_of_length_eq_zero (by omega)
    subst hz0
    refine wpList_append_own_none hgd s x t ho B e i 1 ht hi v pre.length _ hs hown hx ?_
    exact h v wr (by simpa using hown) hbel ⟨rfl, rfl, rfl, Nat.le_refl _, fun _ _ _ => rfl⟩
  | some ad =>
    refine wpList_append_own _ hgd s x t ho B e i z 1 bytes ht hi hz hsize hby hzs (by decide) v pre.length _ hs hown ad zs.length cap (zs.map (Value.int k)) hx (by simp) ?_ (ints_oneCell _ _) ?_ ?_ hB ?_
    · intro j y hj
      have hjl : j < zs.length := by simpa using (List.getElem?_eq_some_iff.1 hj).1
      rw [hc ad rfl j hjl]
      simp [List.getElem?_eq_getElem hjl] at hj
      simp [List.getElem?_eq_getElem hjl, hj]
    · unfold maxLen; omega
    · have h1 : (pre.length + zs.length) * bytes ≤ 4294967296 * 16 := Nat.mul_le_mul hlen hb8
      omega
    · intro v' w1 hown' hg _
      refine h v' w1 (by simpa using hown') (hbel.grown hg hB (fun j hj => (hown.lt j hj).1)) hg

/-- The two rows lie in two blocks. -/
def Far (v x : Value) : Prop := ∀ k, v.ownBlock = some k → x.ownBlock ≠ some k

theorem Far.step {w : World} {v v' x : Value} {B : Nat} {e : TypeId} {K n : Nat} {xs : List Value} (h : Far v x) (o : w.ownsRow B e K x n xs) (hs : ∀ k, v'.ownBlock = some k → v.ownBlock = some k ∨ k = w.heap.size) : Far v' x := by
  intro k hk e
  rcases hs k hk with h1 | h1
  · exact h k h1 e
  · have := (o.lt k e).2
    omega

theorem Far.kept {w w' : World} {v x : Value} {B : Nat} {e : TypeId} {K n : Nat} {xs : List Value} (h : Far v x) (o : w.ownsRow B e K x n xs) (g : w.grownBy w' v.ownBlock) : w'.ownsRow B e K x n xs := by
  refine o.kept g ?_
  cases hx : x.ownBlock with
  | none => exact .inl rfl
  | some k => exact .inr fun e => h k e.symm hx

theorem Far.new {w w' : World} {v x : Value} {B B' : Nat} {e e' : TypeId} {K K' n n' : Nat} {xs xs' : List Value} (o : w.ownsRow B e K v n xs) (o' : w'.ownsRow B' e' K' x n' xs') (hB : w.heap.size ≤ B') : Far v x := by
  intro k hk e
  have h1 := (o.lt k hk).2
  have h2 := (o'.lt k e).1
  omega

theorem append_allL {P : Program} {ops : Array Oper} {rest : List Oper} {o : Oper} {a : Act} {Q : Exit → Act → World → Prop} {w0 wr : World} (hgd : o.guard = none) (s x : Operand) (t : TypeId)
    (ho : o.op = .call { callee := .builtin .append, args := #[s, x], argTypes := #[t, t] }) {B : Nat} {e : TypeId} {i : TypeInfo} {z : Value} {bytes : Nat}
    (ht : P.underlying t = some (.slice e)) (hi : P.info? e = some i) (hz : i.zero = some z) (hsize : i.size = 1) (hby : i.bytes = bytes) (hzs : z.cells.size = 1)
    {k : IntKind} {pre zs : List Int} {v u : Value} (hs : a.eval s = v) (hx : a.eval x = u) (hu : Sl k wr u zs) (hne : 0 < zs.length)
    (hown : wr.ownsRow B e 1 v pre.length (pre.map (Value.int k))) (hbel : Below B w0 wr) (hB : B ≤ wr.heap.size) (hlen : pre.length + zs.length ≤ 4294967296) (hb8 : bytes ≤ 16)
    (h : ∀ v' w', w'.ownsRow B e 1 v' (pre ++ zs).length ((pre ++ zs).map (Value.int k)) → Below B w0 w' → wr.grownBy w' v.ownBlock → (∀ k, v'.ownBlock = some k → v.ownBlock = some k ∨ k = wr.heap.size) → wpList P ops Q rest (a.put o.dst v') w') :
    wpList P ops Q (o :: rest) a wr := by
  obtain ⟨ao, cap, rfl, hl, hm, hn, hc⟩ := hu
  cases ao with
  | none =>
    have hcap := hn rfl
    omega
  | some ad =>
    refine wpList_append_lies _ hgd s x t ho B e i z 1 bytes ht hi hz hsize hby hzs (by decide) v pre.length _ hs hown ad zs.length cap (zs.map (Value.int k)) hx (by simp) ?_ (ints_oneCell _ _) hne ?_ ?_ hB wr.heap.size rfl ?_
    · intro j y hj
      have hjl : j < zs.length := by simpa using (List.getElem?_eq_some_iff.1 hj).1
      rw [hc ad rfl j hjl]
      simp [List.getElem?_eq_getElem hjl] at hj
      simp [List.getElem?_eq_getElem hjl, hj]
    · unfold maxLen; omega
    · have h1 : (pre.length + zs.length) * bytes ≤ 4294967296 * 16 := Nat.mul_le_mul hlen hb8
      omega
    · intro g cp w1 hown' hg hat _
      refine h _ w1 (by simpa using hown') (hbel.grown hg hB (fun j hj => (hown.lt j hj).1)) hg (fun k hk => ?_)
      simp only [Value.ownBlock, Option.some.injEq] at hk
      subst hk
      exact hat

/-- A row of bytes of the call's own. -/
def Pb (B : Nat) (w : World) (dv : Value) (z : List Int) : Prop := w.ownsRow B 5 1 dv z.length (z.map (Value.int .u8))
theorem Pb.sl {B : Nat} {w : World} {v : Value} {z : List Int} (h : Pb B w v z) : Sl .u8 w v z := Sl.owned h
end Go.Proofs.Ytonhehhmnobciaa
