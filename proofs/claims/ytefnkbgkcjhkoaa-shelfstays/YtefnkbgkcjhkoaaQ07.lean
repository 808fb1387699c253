/-
  Texts put together: Base8, AppK6.
-/
import Derived.Test.YtefnkbgkcjhkoaaQ04
import Derived.Test.YtefnkbgkcjhkoaaQ06
import Derived.Lib.SliceRun
import Derived.Deep.AppendLies
/-
  Rows of the call's own, beside each other and cut: what stays, what a cut row of texts reads as. (The pieces that many layers lean on.)
-/
namespace Go.Proofs.Ytefnkbgkcjhkoaa
set_option maxRecDepth 100000
open Go.RowKit

/-- A slice value by its parts. -/
def sv (s : Option Addr × Nat × Nat) : Value := .slice s.1 s.2.1 s.2.2

theorem Try.infoS : (Try.prog.info? 9).map (fun i => (i.zero, i.size, i.bytes)) = some (some (.string ⟨#[]⟩), 1, 16) := by kernel_rfl

/-- A row of another kind stays while one is appended to. -/
theorem own_other {w w' : World} {B B' e e' size size' n n' : Nat} {v v' : Value} {xs xs' : List Value} (h : w.ownsRow B e size v n xs) (h' : w.ownsRow B' e' size' v' n' xs') (hne : e ≠ e')
    (hg : ∀ k, k < w.heap.size → some k ≠ v.ownBlock → w'.heap[k]? = w.heap[k]?) : w'.ownsRow B' e' size' v' n' xs' := by
  refine ⟨h'.1, ?_⟩
  rcases h'.2 with h0 | ⟨g, cap, cur, rfl, hb, hgg, rest⟩
  · exact .inl h0
  · refine .inr ⟨g, cap, cur, rfl, hb, ?_, rest⟩
    rw [hg g (Array.getElem?_eq_some_iff.1 hgg).1 ?_]
    · exact hgg
    · rcases h.2 with ⟨rfl, _⟩ | ⟨g2, cap2, cur2, rfl, _, hg2, _⟩
      · simp [Value.ownBlock]
      · intro e1
        simp only [Value.ownBlock, Option.some.injEq] at e1
        subst e1
        rw [hgg] at hg2
        simp only [Option.some.injEq, Obj.cells.injEq] at hg2
        exact hne hg2.2.1.symm

section
variable {α : Type} {f : α → Value}
/-- 'out = append(out, y)', and all else stays. -/
theorem append_oneK {P : Program} {ops : Array Oper} {rest : List Oper} {o : Oper} {a : Act} {Q : Exit → Act → World → Prop} {w0 wr : World} (hgd : o.guard = none) (s x : Operand) (t : TypeId)
    (ho : o.op = .call { callee := .builtin .append, args := #[s, x], argTypes := #[t, t] }) {B : Nat} {e : TypeId} {i : TypeInfo} {z : Value} {bytes : Nat}
    (ht : P.underlying t = some (.slice e)) (hi : P.info? e = some i) (hz : i.zero = some z) (hsize : i.size = 1) (hby : i.bytes = bytes) (hzs : z.cells.size = 1)
    (hf : ∀ y, (f y).oneCell' = true) {pre : List α} {y : α} {v : Value} (hs : a.eval s = v) (hx : a.eval x = .slice (some ⟨wr.heap.size, 0, none⟩) 1 1)
    (hown : wr.ownsRow B e 1 v pre.length (pre.map f)) {B0 : Nat} (hbel : Below B0 w0 wr) (hB0 : B0 ≤ B) (hB : B ≤ wr.heap.size) (hlen : pre.length ≤ 4294967296) (hb8 : bytes ≤ 16)
    (h : ∀ v' w', w'.ownsRow B e 1 v' (pre ++ [y]).length ((pre ++ [y]).map f) → Below B0 w0 w' → (∀ k, k < wr.heap.size → some k ≠ v.ownBlock → w'.heap[k]? = wr.heap[k]?) → wr.heap.size ≤ w'.heap.size → wpList P ops Q rest (a.put o.dst v') w') :
    wpList P ops Q (o :: rest) a (wr.alloc (.cells #[f y] e)) := by
  refine wpList_append_own _ hgd s x t ho B e i z 1 bytes ht hi hz hsize hby hzs (by decide) v pre.length _ hs (hown.alloc _) ⟨wr.heap.size, 0, none⟩ 1 1 [f y] hx rfl ?_ ?_ ?_ ?_ ?_ ?_
  · intro j u hj
    match j, hj with
    | 0, hj => simp at hj; subst hj; simp [Addr.add]
  · intro u hu; simp at hu; subst hu; exact hf y
  · unfold maxLen; omega
  · have h1 : (pre.length + 1) * bytes ≤ 4294967297 * 16 := Nat.mul_le_mul (by omega) hb8
    omega
  · simp; omega
  · intro v' w1 hown' hg _
    refine h v' w1 (by simpa using hown') ((hbel.alloc (by omega) _).grown hg (by simp; omega) (fun j hj => by have := (hown.lt j hj).1; omega)) (fun k hk hne => ?_) ?_
    · rw [hg.block k (by simp; omega) hne, Below.heap_alloc _ _ _ hk]
    · have := hg.size
      simp at this
      omega
end

/-- The first word of a list that has one. -/
theorem Gl.first {w : World} {x : Option Addr} {n c : Nat} {l : List ByteArray} (h : Gl .string w (.slice x n c) l) (h0 : 0 < l.length) : ∃ b off y, x = some ⟨b, off, none⟩ ∧ b < w.heap.size ∧ l[0]? = some y ∧ w.cell? ⟨b, off, none⟩ = some (.string y) := by
  obtain ⟨x', c', hv, -, -, -, ho⟩ := h.open
  simp only [Value.slice.injEq] at hv
  obtain ⟨rfl, rfl, rfl⟩ := hv
  obtain ⟨b, off, rfl, hb, hc⟩ := ho h0
  have hs := List.getElem?_eq_getElem h0
  exact ⟨b, off, _, rfl, hb, hs, by simpa using hc 0 _ hs⟩

theorem Gl.cut {w : World} {a : Option Addr} {cap : Nat} {L : List ByteArray} (h : Gl .string w (.slice a L.length cap) L) (lo hi : Nat) (h1 : lo ≤ hi) (h2 : hi ≤ L.length) :
    Gl .string w (sliced a lo hi cap 1) ((L.drop lo).take (hi - lo)) := by
  obtain ⟨a', cap', hv, hl, hmx, hn, hc⟩ := h
  simp only [Value.slice.injEq, true_and] at hv
  obtain ⟨rfl, rfl⟩ := hv
  have hlen : ((L.drop lo).take (hi - lo)).length = hi - lo := by simp; omega
  refine ⟨_, cap - lo, by simp only [sliced, hlen]; rfl, by omega, by unfold maxLen at *; omega, ?_, ?_⟩
  · intro h
    split at h
    · have := hn h; omega
    · simp at h; have := hn h; omega
  · intro x hx i y hy
    have hi' : i < hi - lo := by
      have := (List.getElem?_eq_some_iff.1 hy).1
      omega
    have hyl : L[lo + i]? = some y := by
      rw [List.getElem?_take, if_pos hi', List.getElem?_drop] at hy
      exact hy
    rw [if_neg (by omega)] at hx
    cases a with
    | none => simp at hx
    | some z =>
      have h0 := hc z rfl (lo + i) y hyl
      obtain ⟨b, off, spot⟩ := z
      have z0 := hc _ rfl 0 L[0] (List.getElem?_eq_getElem (by omega))
      have hsp : spot = none := by simpa [Addr.add] using World.cell?_spot z0
      subst hsp
      simp [Addr.add_lit] at hx
      subst hx
      simp only [Addr.add_lit] at h0 ⊢
      rw [show off + lo + i = off + (lo + i) by omega]
      exact h0

theorem run_st_from (a : Option Addr) (n cap m : Nat) (hm : m ≤ n) (w : World) :
    (Instr.slice 28 (.slice a n cap) (some (.int .i64 (m : Int))) none none).run Try.prog w = .ok (sliced a m n cap 1) w := by
  have hs : ∀ w : World, (sizeOf (Try.prog.elem 28)).run Try.prog w = .ok 1 w := fun w => by kernel_rfl
  rw [run_slice_l w 28 _ n cap (by kernel_rfl) .i64 m (by omega) (by omega), hs]
  simp [Result.andThen]
theorem run_st_to (a : Option Addr) (n cap m : Nat) (hm : m ≤ cap) (w : World) :
    (Instr.slice 28 (.slice a n cap) none (some (.int .i64 (m : Int))) none).run Try.prog w = .ok (sliced a 0 m cap 1) w := by
  have hs : ∀ w : World, (sizeOf (Try.prog.elem 28)).run Try.prog w = .ok 1 w := fun w => by kernel_rfl
  rw [run_slice_h w 28 _ n cap (by kernel_rfl) .i64 m (by omega) (by omega), hs]
  simp [Result.andThen]
theorem drop_take_all7 {α : Type} (L : List α) (m : Nat) : (L.drop m).take (L.length - m) = L.drop m := List.take_of_length_le (by simp)

theorem own_froz {α : Type} {f : α → Value} {w : World} {B : Nat} {e : TypeId} {g n cap : Nat} {l : List α} (h : w.ownsRow B e 1 (.slice (some ⟨g, 0, none⟩) n cap) l.length (l.map f)) (hn : n = l.length) (j : Nat) : w.frozen? ⟨g, j, none⟩ = false := by
  subst hn
  exact h.frozenAt j

theorem D.set_same {α : Type} {l : List α} {k : Nat} {x : α} (h : l[k]? = some x) : l.set k x = l := by
  obtain ⟨hk, rfl⟩ := List.getElem?_eq_some_iff.1 h
  exact List.set_getElem_self hk

end Go.Proofs.Ytefnkbgkcjhkoaa

/-
  'out = append(out, xs...)' at numbers, with what stays beside it: every block but the row's own.
-/
namespace Go.Proofs.Ytefnkbgkcjhkoaa
set_option maxRecDepth 100000
open Go.RowKit

theorem own_ne_box {w : World} {B : Nat} {e T : TypeId} {K : Nat} {v : Value} {n : Nat} {xs : List Value} {b : Nat} {cs : Array Value} {fr : Nat × Nat} (o : w.ownsRow B e K v n xs) (hb : w.heap[b]? = some (.cells cs T fr)) (hTe : T ≠ e) : some b ≠ v.ownBlock := by
  intro h
  rcases o.2 with ⟨rfl, _⟩ | ⟨g, cap, cur, rfl, _, hg, _⟩
  · cases h
  · simp only [Value.ownBlock, Option.some.injEq] at h
    subst h
    rw [hg] at hb
    simp only [Option.some.injEq, Obj.cells.injEq] at hb
    exact hTe hb.2.1.symm

theorem box_below {w w' : World} {b : Nat} {o : Obj} (h : w.heap[b]? = some o) (hb : Below w.heap.size w w') : w'.heap[b]? = some o := by
  rw [hb.block b (Array.getElem?_eq_some_iff.1 h).1]
  exact h

theorem box_grown {w w' : World} {b : Nat} {o : Obj} {row : Option Nat} (h : w.heap[b]? = some o) (hg : w.grownBy w' row) (hne : some b ≠ row) : w'.heap[b]? = some o := by
  rw [hg.block b (Array.getElem?_eq_some_iff.1 h).1 hne]
  exact h

theorem box_cell {w : World} {b : Nat} {cs : Array Value} {T : TypeId} {fr : Nat × Nat} (h : w.heap[b]? = some (.cells cs T fr)) {j : Nat} {u : Value} (hu : cs[j]? = some u) : w.cell? ⟨b, j, none⟩ = some u := by simp [World.cell?, h, hu]

theorem append_allK {P : Program} {ops : Array Oper} {rest : List Oper} {o : Oper} {a : Act} {Q : Exit → Act → World → Prop} {w0 wr : World} (hgd : o.guard = none) (s x : Operand) (t : TypeId)
    (ho : o.op = .call { callee := .builtin .append, args := #[s, x], argTypes := #[t, t] }) {B : Nat} {e : TypeId} {i : TypeInfo} {z : Value} {bytes : Nat}
    (ht : P.underlying t = some (.slice e)) (hi : P.info? e = some i) (hz : i.zero = some z) (hsize : i.size = 1) (hby : i.bytes = bytes) (hzs : z.cells.size = 1)
    {k : IntKind} {pre zs : List Int} {v u : Value} (hs : a.eval s = v) (hx : a.eval x = u) (hu : Sl k wr u zs)
    (hown : wr.ownsRow B e 1 v pre.length (pre.map (Value.int k))) (hbel : Below B w0 wr) (hB : B ≤ wr.heap.size) (hlen : pre.length + zs.length ≤ 4294967296) (hb8 : bytes ≤ 16)
    (h : ∀ v' w', w'.ownsRow B e 1 v' (pre ++ zs).length ((pre ++ zs).map (Value.int k)) → Below B w0 w' → wr.grownBy w' v.ownBlock → wpList P ops Q rest (a.put o.dst v') w') :
    wpList P ops Q (o :: rest) a wr := by
  obtain ⟨ao, cap, rfl, hl, hm, hn, hc⟩ := hu
  cases ao with
  | none =>
    have hcap := hn rfl
    subst hcap
    have hz0 : zs = [] := List.eq_nil_of_length_eq_zero (by omega)
    subst hz0
    refine wpList_append_own_none hgd s x t ho B e i 1 ht hi v pre.length _ hs hown hx ?_
    exact h v wr (by simpa using hown) hbel ⟨rfl, rfl, rfl, Nat.le_refl _, fun _ _ _ => rfl⟩
  | some ad =>
    refine wpList_append_own _ hgd s x t ho B e i z 1 bytes ht hi hz hsize hby hzs (by decide) v pre.length _ hs hown ad zs.length cap (zs.map (Value.int k)) hx (by simp) ?_ (ints_oneCell _ _) ?_ ?_ hB ?_
    · intro j y hj
      have hjl : j < zs.length := by simpa using (List.getElem?_eq_some_iff.1 hj).1
      rw [hc ad rfl j hjl]
      simp [List.getElem?_eq_getElem hjl] at hj
      simp [List.getElem?_eq_getElem hjl, hj]
    · unfold maxLen; omega
    · have h1 : (pre.length + zs.length) * bytes ≤ 4294967296 * 16 := Nat.mul_le_mul hlen hb8
      omega
    · intro v' w1 hown' hg _
      refine h v' w1 (by simpa using hown') (hbel.grown hg hB (fun j hj => (hown.lt j hj).1)) hg

/-- The two rows lie in two blocks. -/
def Far (v x : Value) : Prop := ∀ k, v.ownBlock = some k → x.ownBlock ≠ some k

theorem Far.step {w : World} {v v' x : Value} {B : Nat} {e : TypeId} {K n : Nat} {xs : List Value} (h : Far v x) (o : w.ownsRow B e K x n xs) (hs : ∀ k, v'.ownBlock = some k → v.ownBlock = some k ∨ k = w.heap.size) : Far v' x := by
  intro k hk e
  rcases hs k hk with h1 | h1
  · exact h k h1 e
  · have := (o.lt k e).2
    omega

theorem Far.kept {w w' : World} {v x : Value} {B : Nat} {e : TypeId} {K n : Nat} {xs : List Value} (h : Far v x) (o : w.ownsRow B e K x n xs) (g : w.grownBy w' v.ownBlock) : w'.ownsRow B e K x n xs := by
  refine o.kept g ?_
  cases hx : x.ownBlock with
  | none => exact .inl rfl
  | some k => exact .inr fun e => h k e.symm hx

theorem Far.new {w w' : World} {v x : Value} {B B' : Nat} {e e' : TypeId} {K K' n n' : Nat} {xs xs' : List Value} (o : w.ownsRow B e K v n xs) (o' : w'.ownsRow B' e' K' x n' xs') (hB : w.heap.size ≤ B') : Far v x := by
  intro k hk e
  have h1 := (o.lt k hk).2
  have h2 := (o'.lt k e).1
  omega

theorem append_allL {P : Program} {ops : Array Oper} {rest : List Oper} {o : Oper} {a : Act} {Q : Exit → Act → World → Prop} {w0 wr : World} (hgd : o.guard = none) (s x : Operand) (t : TypeId)
    (ho : o.op = .call { callee := .builtin .append, args := #[s, x], argTypes := #[t, t] }) {B : Nat} {e : TypeId} {i : TypeInfo} {z : Value} {bytes : Nat}
    (ht : P.underlying t = some (.slice e)) (hi : P.info? e = some i) (hz : i.zero = some z) (hsize : i.size = 1) (hby : i.bytes = bytes) (hzs : z.cells.size = 1)
    {k : IntKind} {pre zs : List Int} {v u : Value} (hs : a.eval s = v) (hx : a.eval x = u) (hu : Sl k wr u zs) (hne : 0 < zs.length)
    (hown : wr.ownsRow B e 1 v pre.length (pre.map (Value.int k))) (hbel : Below B w0 wr) (hB : B ≤ wr.heap.size) (hlen : pre.length + zs.length ≤ 4294967296) (hb8 : bytes ≤ 16)
    (h : ∀ v' w', w'.ownsRow B e 1 v' (pre ++ zs).length ((pre ++ zs).map (Value.int k)) → Below B w0 w' → wr.grownBy w' v.ownBlock → (∀ k, v'.ownBlock = some k → v.ownBlock = some k ∨ k = wr.heap.size) → wpList P ops Q rest (a.put o.dst v') w') :
    wpList P ops Q (o :: rest) a wr := by
  obtain ⟨ao, cap, rfl, hl, hm, hn, hc⟩ := hu
  cases ao with
  | none =>
    have hcap := hn rfl
    omega
  | some ad =>
    refine wpList_append_lies _ hgd s x t ho B e i z 1 bytes ht hi hz hsize hby hzs (by decide) v pre.length _ hs hown ad zs.length cap (zs.map (Value.int k)) hx (by simp) ?_ (ints_oneCell _ _) hne ?_ ?_ hB wr.heap.size rfl ?_
    · intro j y hj
      have hjl : j < zs.length := by simpa using (List.getElem?_eq_some_iff.1 hj).1
      rw [hc ad rfl j hjl]
      simp [List.getElem?_eq_getElem hjl] at hj
      simp [List.getElem?_eq_getElem hjl, hj]
    · unfold maxLen; omega
    · have h1 : (pre.length + zs.length) * bytes ≤ 4294967296 * 16 := Nat.mul_le_mul hlen hb8
      omega
    · intro g cp w1 hown' hg hat _
      refine h _ w1 (by simpa using hown') (hbel.grown hg hB (fun j hj => (hown.lt j hj).1)) hg (fun k hk => ?_)
      simp only [Value.ownBlock, Option.some.injEq] at hk
      subst hk
      exact hat

/-- A row of bytes of the call's own. -/
def Pb (B : Nat) (w : World) (dv : Value) (z : List Int) : Prop := w.ownsRow B 5 1 dv z.length (z.map (Value.int .u8))
theorem Pb.sl {B : Nat} {w : World} {v : Value} {z : List Int} (h : Pb B w v z) : Sl .u8 w v z := Sl.owned h
end Go.Proofs.Ytefnkbgkcjhkoaa
