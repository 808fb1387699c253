/-
  Texts put together: Base8, AppK6, Body6, Pack6.
-/
import Derived.Test.YtonhehhmnobciaaGreatK04
import Derived.Test.YtonhehhmnobciaaGreatK06
import Derived.Lib.SliceRun
import Derived.Deep.AppendLies
import Derived.Test.YtonhehhmnobciaaGreatK05
/-
  Rows of the call's own, beside each other and cut: what stays, what a cut row of texts reads as. (The pieces that many layers lean on.)
-/
namespace Go.Proofs.YtonhehhmnobciaaGreat
set_option maxRecDepth 100000
open Go.RowKit

/-- A slice value by its parts. -/
def sv (s : Option Addr × Nat × Nat) : Value := .slice s.1 s.2.1 s.2.2

theorem Tryz.infoS : (Tryz.prog.info? 9).map (fun i => (i.zero, i.size, i.bytes)) = some (some (.string ⟨#[]⟩), 1, 16) := by kernel_rfl

/-- A row of another kind stays while one is appended to. -/
theorem own_other {w w' : World} {B B' e e' size size' n n' : Nat} {v v' : Value} {xs xs' : List Value} (h : w.ownsRow B e size v n xs) (h' : w.ownsRow B' e' size' v' n' xs') (hne : e ≠ e')
    (hg : ∀ k, k < w.heap.size → some k ≠ v.ownBlock → w'.heap[k]? = w.heap[k]?) : w'.ownsRow B' e' size' v' n' xs' := by
  refine ⟨h'.1, ?_⟩
  rcases h'.2 with h0 | ⟨g, cap, cur, rfl, hb, hgg, rest⟩
  · exact .inl h0
  · refine .inr ⟨g, cap, cur, rfl, hb, ?_, rest⟩
    rw [hg g (Array.getElem?_eq_some_iff.1 hgg).1 ?_]
    · exact hgg
    · rcases h.2 with ⟨rfl, _⟩ | ⟨g2, cap2, cur2, rfl, _, hg2, _⟩
      · simp [Value.ownBlock]
      · intro e1
        simp only [Value.ownBlock, Option.some.injEq] at e1
        subst e1
        rw [hgg] at hg2
        simp only [Option.some.injEq, Obj.cells.injEq] at hg2
        exact hne hg2.2.1.symm

section
variable {α : Type} {f : α → Value}
/-- 'out = append(out, y)', and all else stays. -/
theorem append_oneK {P : Program} {ops : Array Oper} {rest : List Oper} {o : Oper} {a : Act} {Q : Exit → Act → World → Prop} {w0 wr : World} (hgd : o.guard = none) (s x : Operand) (t : TypeId)
    (ho : o.op = .call { callee := .builtin .append, args := #[s, x], argTypes := #[t, t] }) {B : Nat} {e : TypeId} {i : TypeInfo} {z : Value} {bytes : Nat}
    (ht : P.underlying t = some (.slice e)) (hi : P.info? e = some i) (hz : i.zero = some z) (hsize : i.size = 1) (hby : i.bytes = bytes) (hzs : z.cells.size = 1)
    (hf : ∀ y, (f y).oneCell' = true) {pre : List α} {y : α} {v : Value} (hs : a.eval s = v) (hx : a.eval x = .slice (some ⟨wr.heap.size, 0, none⟩) 1 1)
    (hown : wr.ownsRow B e 1 v pre.length (pre.map f)) {B0 : Nat} (hbel : Below B0 w0 wr) (hB0 : B0 ≤ B) (hB : B ≤ wr.heap.size) (hlen : pre.length ≤ 4294967296) (hb8 : bytes ≤ 16)
    (h : ∀ v' w', w'.ownsRow B e 1 v' (pre ++ [y]).length ((pre ++ [y]).map f) → Below B0 w0 w' → (∀ k, k < wr.heap.size → some k ≠ v.ownBlock → w'.heap[k]? = wr.heap[k]?) → wr.heap.size ≤ w'.heap.size → wpList P ops Q rest (a.put o.dst v') w') :
    wpList P ops Q (o :: rest) a (wr.alloc (.cells #[f y] e)) := by
  refine wpList_append_own _ hgd s x t ho B e i z 1 bytes ht hi hz hsize hby hzs (by decide) v pre.length _ hs (hown.alloc _) ⟨wr.heap.size, 0, none⟩ 1 1 [f y] hx rfl ?_ ?_ ?_ ?_ ?_ ?_
  · intro j u hj
    match j, hj with
    | 0, hj => simp at hj; subst hj; simp [Addr.add]
  · intro u hu; simp at hu; subst hu; exact hf y
  · unfold maxLen; omega
  · have h1 : (pre.length + 1) * bytes ≤ 4294967297 * 16 := Nat.mul_le_mul (by omega) hb8
    omega
  · simp; omega
  · intro v' w1 hown' hg _
    refine h v' w1 (by simpa using hown') ((hbel.alloc (by omega) _).grown hg (by simp; omega) (fun j hj => by have := (hown.lt j hj).1; omega)) (fun k hk hne => ?_) ?_
    · rw [hg.block k (by simp; omega) hne, Below.heap_alloc _ _ _ hk]
    · have := hg.size
      simp at this
      omega
end

/-- The first word of a list that has one. -/
theorem Gl.first {w : World} {x : Option Addr} {n c : Nat} {l : List ByteArray} (h : Gl .string w (.slice x n c) l) (h0 : 0 < l.length) : ∃ b off y, x = some ⟨b, off, none⟩ ∧ b < w.heap.size ∧ l[0]? = some y ∧ w.cell? ⟨b, off, none⟩ = some (.string y) := by
  obtain ⟨x', c', hv, -, -, -, ho⟩ := h.open
  simp only [Value.slice.injEq] at hv
  obtain ⟨rfl, rfl, rfl⟩ := hv
  obtain ⟨b, off, rfl, hb, hc⟩ := ho h0
  have hs := List.getElem?_eq_getElem h0
  exact ⟨b, off, _, rfl, hb, hs, by simpa using hc 0 _ hs⟩

theorem Gl.cut {w : World} {a : Option Addr} {cap : Nat} {L : List ByteArray} (h : Gl .string w (.slice a L.length cap) L) (lo hi : Nat) (h1 : lo ≤ hi) (h2 : hi ≤ L.length) :
    Gl .string w (sliced a lo hi cap 1) ((L.drop lo).take (hi - lo)) := by
  obtain ⟨a', cap', hv, hl, hmx, hn, hc⟩ := h
  simp only [Value.slice.injEq, true_and] at hv
  obtain ⟨rfl, rfl⟩ := hv
  have hlen : ((L.drop lo).take (hi - lo)).length = hi - lo := by simp; omega
  refine ⟨_, cap - lo, by simp only [sliced, hlen]; rfl, by omega, by unfold maxLen at *; omega, ?_, ?_⟩
  · intro h
    split at h
    · have := hn h; omega
    · simp at h; have := hn h; omega
  · intro x hx i y hy
    have hi' : i < hi - lo := by
      have := (List.getElem?_eq_some_iff.1 hy).1
      omega
    have hyl : L[lo + i]? = some y := by
      rw [List.getElem?_take, if_pos hi', List.getElem?_drop] at hy
      exact hy
    rw [if_neg (by omega)] at hx
    cases a with
    | none => simp at hx
    | some z =>
      have h0 := hc z rfl (lo + i) y hyl
      obtain ⟨b, off, spot⟩ := z
      have z0 := hc _ rfl 0 L[0] (List.getElem?_eq_getElem (by omega))
      have hsp : spot = none := by simpa [Addr.add] using World.cell?_spot z0
      subst hsp
      simp [Addr.add_lit] at hx
      subst hx
      simp only [Addr.add_lit] at h0 ⊢
      rw [show off + lo + i = off + (lo + i) by omega]
      exact h0

theorem run_st_from (a : Option Addr) (n cap m : Nat) (hm : m ≤ n) (w : World) :
    (Instr.slice 25 (.slice a n cap) (some (.int .i64 (m : Int))) none none).run Tryz.prog w = .ok (sliced a m n cap 1) w := by
  have hs : ∀ w : World, (sizeOf (Tryz.prog.elem 25)).run Tryz.prog w = .ok 1 w := fun w => by kernel_rfl
  rw [run_slice_l w 25 _ n cap (by kernel_rfl) .i64 m (by omega) (by omega), hs]
  simp [Result.andThen]
theorem run_st_to (a : Option Addr) (n cap m : Nat) (hm : m ≤ cap) (w : World) :
    (Instr.slice 25 (.slice a n cap) none (some (.int .i64 (m : Int))) none).run Tryz.prog w = .ok (sliced a 0 m cap 1) w := by
  have hs : ∀ w : World, (sizeOf (Tryz.prog.elem 25)).run Tryz.prog w = .ok 1 w := fun w => by kernel_rfl
  rw [run_slice_h w 25 _ n cap (by kernel_rfl) .i64 m (by omega) (by omega), hs]
  simp [Result.andThen]
theorem drop_take_all7 {α : Type} (L : List α) (m : Nat) : (L.drop m).take (L.length - m) = L.drop m := List.take_of_length_le (by simp)

theorem own_froz {α : Type} {f : α → Value} {w : World} {B : Nat} {e : TypeId} {g n cap : Nat} {l : List α} (h : w.ownsRow B e 1 (.slice (some ⟨g, 0, none⟩) n cap) l.length (l.map f)) (hn : n = l.length) (j : Nat) : w.frozen? ⟨g, j, none⟩ = false := by
  subst hn
  exact h.frozenAt j

theorem D.set_same {α : Type} {l : List α} {k : Nat} {x : α} (h : l[k]? = some x) : l.set k x = l := by
  obtain ⟨hk, rfl⟩ := List.getElem?_eq_some_iff.1 h
  exact List.set_getElem_self hk

end Go.Proofs.YtonhehhmnobciaaGreat

/-
  'out = append(out, xs...)' at numbers, with what stays beside it: every block but the row's own.
-/
namespace Go.Proofs.YtonhehhmnobciaaGreat
set_option maxRecDepth 100000
open Go.RowKit

theorem own_ne_box {w : World} {B : Nat} {e T : TypeId} {K : Nat} {v : Value} {n : Nat} {xs : List Value} {b : Nat} {cs : Array Value} {fr : Nat × Nat} (o : w.ownsRow B e K v n xs) (hb : w.heap[b]? = some (.cells cs T fr)) (hTe : T ≠ e) : some b ≠ v.ownBlock := by
  intro h
  rcases o.2 with ⟨rfl, _⟩ | ⟨g, cap, cur, rfl, _, hg, _⟩
  · cases h
  · simp only [Value.ownBlock, Option.some.injEq] at h
    subst h
    rw [hg] at hb
    simp only [Option.some.injEq, Obj.cells.injEq] at hb
    exact hTe hb.2.1.symm

theorem box_below {w w' : World} {b : Nat} {o : Obj} (h : w.heap[b]? = some o) (hb : Below w.heap.size w w') : w'.heap[b]? = some o := by
  rw [hb.block b (Array.getElem?_eq_some_iff.1 h).1]
  exact h

theorem box_grown {w w' : World} {b : Nat} {o : Obj} {row : Option Nat} (h : w.heap[b]? = some o) (hg : w.grownBy w' row) (hne : some b ≠ row) : w'.heap[b]? = some o := by
  rw [hg.block b (Array.getElem?_eq_some_iff.1 h).1 hne]
  exact h

theorem box_cell {w : World} {b : Nat} {cs : Array Value} {T : TypeId} {fr : Nat × Nat} (h : w.heap[b]? = some (.cells cs T fr)) {j : Nat} {u : Value} (hu : cs[j]? = some u) : w.cell? ⟨b, j, none⟩ = some u := by simp [World.cell?, h, hu]

theorem append_allK {P : Program} {ops : Array Oper} {rest : List Oper} {o : Oper} {a : Act} {Q : Exit → Act → World → Prop} {w0 wr : World} (hgd : o.guard = none) (s x : Operand) (t : TypeId)
    (ho : o.op = .call { callee := .builtin .append, args := #[s, x], argTypes := #[t, t] }) {B : Nat} {e : TypeId} {i : TypeInfo} {z : Value} {bytes : Nat}
    (ht : P.underlying t = some (.slice e)) (hi : P.info? e = some i) (hz : i.zero = some z) (hsize : i.size = 1) (hby : i.bytes = bytes) (hzs : z.cells.size = 1)
    {k : IntKind} {pre zs : List Int} {v u : Value} (hs : a.eval s = v) (hx : a.eval x = u) (hu : Sl k wr u zs)
    (hown : wr.ownsRow B e 1 v pre.length (pre.map (Value.int k))) (hbel : Below B w0 wr) (hB : B ≤ wr.heap.size) (hlen : pre.length + zs.length ≤ 4294967296) (hb8 : bytes ≤ 16)
    (h : ∀ v' w', w'.ownsRow B e 1 v' (pre ++ zs).length ((pre ++ zs).map (Value.int k)) → Below B w0 w' → wr.grownBy w' v.ownBlock → wpList P ops Q rest (a.put o.dst v') w') :
    wpList P ops Q (o :: rest) a wr := by
  obtain ⟨ao, cap, rfl, hl, hm, hn, hc⟩ := hu
  cases ao with
  | none =>
    have hcap := hn rfl
    subst hcap
    have hz0 : zs = [] := List.eq_nil_of_length_eq_zero (by omega)
    subst hz0
    refine wpList_append_own_none hgd s x t ho B e i 1 ht hi v pre.length _ hs hown hx ?_
    exact h v wr (by simpa using hown) hbel ⟨rfl, rfl, rfl, Nat.le_refl _, fun _ _ _ => rfl⟩
  | some ad =>
    refine wpList_append_own _ hgd s x t ho B e i z 1 bytes ht hi hz hsize hby hzs (by decide) v pre.length _ hs hown ad zs.length cap (zs.map (Value.int k)) hx (by simp) ?_ (ints_oneCell _ _) ?_ ?_ hB ?_
    · intro j y hj
      have hjl : j < zs.length := by simpa using (List.getElem?_eq_some_iff.1 hj).1
      rw [hc ad rfl j hjl]
      simp [List.getElem?_eq_getElem hjl] at hj
      simp [List.getElem?_eq_getElem hjl, hj]
    · unfold maxLen; omega
    · have h1 : (pre.length + zs.length) * bytes ≤ 4294967296 * 16 := Nat.mul_le_mul hlen hb8
      omega
    · intro v' w1 hown' hg _
      refine h v' w1 (by simpa using hown') (hbel.grown hg hB (fun j hj => (hown.lt j hj).1)) hg

/-- The two rows lie in two blocks. -/
def Far (v x : Value) : Prop := ∀ k, v.ownBlock = some k → x.ownBlock ≠ some k

theorem Far.step {w : World} {v v' x : Value} {B : Nat} {e : TypeId} {K n : Nat} {xs : List Value} (h : Far v x) (o : w.ownsRow B e K x n xs) (hs : ∀ k, v'.ownBlock = some k → v.ownBlock = some k ∨ k = w.heap.size) : Far v' x := by
  intro k hk e
  rcases hs k hk with h1 | h1
  · exact h k h1 e
  · have := (o.lt k e).2
    omega

theorem Far.kept {w w' : World} {v x : Value} {B : Nat} {e : TypeId} {K n : Nat} {xs : List Value} (h : Far v x) (o : w.ownsRow B e K x n xs) (g : w.grownBy w' v.ownBlock) : w'.ownsRow B e K x n xs := by
  refine o.kept g ?_
  cases hx : x.ownBlock with
  | none => exact .inl rfl
  | some k => exact .inr fun e => h k e.symm hx

theorem Far.new {w w' : World} {v x : Value} {B B' : Nat} {e e' : TypeId} {K K' n n' : Nat} {xs xs' : List Value} (o : w.ownsRow B e K v n xs) (o' : w'.ownsRow B' e' K' x n' xs') (hB : w.heap.size ≤ B') : Far v x := by
  intro k hk e
  have h1 := (o.lt k hk).2
  have h2 := (o'.lt k e).1
  omega

theorem append_allL {P : Program} {ops : Array Oper} {rest : List Oper} {o : Oper} {a : Act} {Q : Exit → Act → World → Prop} {w0 wr : World} (hgd : o.guard = none) (s x : Operand) (t : TypeId)
    (ho : o.op = .call { callee := .builtin .append, args := #[s, x], argTypes := #[t, t] }) {B : Nat} {e : TypeId} {i : TypeInfo} {z : Value} {bytes : Nat}
    (ht : P.underlying t = some (.slice e)) (hi : P.info? e = some i) (hz : i.zero = some z) (hsize : i.size = 1) (hby : i.bytes = bytes) (hzs : z.cells.size = 1)
    {k : IntKind} {pre zs : List Int} {v u : Value} (hs : a.eval s = v) (hx : a.eval x = u) (hu : Sl k wr u zs) (hne : 0 < zs.length)
    (hown : wr.ownsRow B e 1 v pre.length (pre.map (Value.int k))) (hbel : Below B w0 wr) (hB : B ≤ wr.heap.size) (hlen : pre.length + zs.length ≤ 4294967296) (hb8 : bytes ≤ 16)
    (h : ∀ v' w', w'.ownsRow B e 1 v' (pre ++ zs).length ((pre ++ zs).map (Value.int k)) → Below B w0 w' → wr.grownBy w' v.ownBlock → (∀ k, v'.ownBlock = some k → v.ownBlock = some k ∨ k = wr.heap.size) → wpList P ops Q rest (a.put o.dst v') w') :
    wpList P ops Q (o :: rest) a wr := by
  obtain ⟨ao, cap, rfl, hl, hm, hn, hc⟩ := hu
  cases ao with
  | none =>
    have hcap := hn rfl
    omega
  | some ad =>
    refine wpList_append_lies _ hgd s x t ho B e i z 1 bytes ht hi hz hsize hby hzs (by decide) v pre.length _ hs hown ad zs.length cap (zs.map (Value.int k)) hx (by simp) ?_ (ints_oneCell _ _) hne ?_ ?_ hB wr.heap.size rfl ?_
    · intro j y hj
      have hjl : j < zs.length := by simpa using (List.getElem?_eq_some_iff.1 hj).1
      rw [hc ad rfl j hjl]
      simp [List.getElem?_eq_getElem hjl] at hj
      simp [List.getElem?_eq_getElem hjl, hj]
    · unfold maxLen; omega
    · have h1 : (pre.length + zs.length) * bytes ≤ 4294967296 * 16 := Nat.mul_le_mul hlen hb8
      omega
    · intro g cp w1 hown' hg hat _
      refine h _ w1 (by simpa using hown') (hbel.grown hg hB (fun j hj => (hown.lt j hj).1)) hg (fun k hk => ?_)
      simp only [Value.ownBlock, Option.some.injEq] at hk
      subst hk
      exact hat

/-- A row of bytes of the call's own. -/
def Pb (B : Nat) (w : World) (dv : Value) (z : List Int) : Prop := w.ownsRow B 5 1 dv z.length (z.map (Value.int .u8))
theorem Pb.sl {B : Nat} {w : World} {v : Value} {z : List Int} (h : Pb B w v z) : Sl .u8 w v z := Sl.owned h
end Go.Proofs.YtonhehhmnobciaaGreat

/-
  The contract of body: the bytes of a block's postings.
-/
namespace Go.Proofs.YtonhehhmnobciaaGreat
set_option maxRecDepth 100000
open Go.RowKit

set_option maxHeartbeats 4000000 in
theorem body_any (v : Value) (g : List Pt) (m0 : Int) (w : World) (h : Pl w v g) (hg4 : g.length ≤ 4) (hm0 : -1 ≤ m0 ∧ m0 ≤ 63) (hg : ∀ p ∈ g, (0 ≤ p.d ∧ p.d ≤ 63) ∧ Q.places p.a = true) :
    Calls Tryz.prog 53 #[v, .int .i64 m0] w fun e w' => ∃ v', e = .returned v' ∧ Pb w.heap.size w' v' (Q.body m0 g) ∧ Below w.heap.size w w' := by
  obtain ⟨i5, hi5, hz0, hz1, hz2⟩ := info_parts Tryz.info5
  have hbl := Q.body_len (g := g) (m := m0) (fun p hp => (hg p hp).2)
  have H := h
  obtain ⟨a, cap, rfl, hl, hm, hna, -⟩ := h.open
  clear h
  go_enter Tryz.func53, Tryz.ntmps53
  go_wp2
  go_loopw [1, 5, 12] (fun av bv iv wr => ∃ (k : Nat) (m : Int) (pre : List Int), k ≤ g.length ∧ iv = .int .i64 k ∧ av = .int .i64 m ∧ (-1 ≤ m ∧ m ≤ 63) ∧ Q.body m0 g = pre ++ Q.body m (g.drop k) ∧ Pb w.heap.size wr bv pre ∧ Below w.heap.size w wr) (fun _ _ iv _ => g.length - (intOf iv).toNat)
  case atStart => exact ⟨0, m0, [], Nat.zero_le _, rfl, rfl, hm0, rfl, World.ownsRow_nil _ _ _ _, Below.refl _ _⟩
  case round =>
    obtain ⟨k, m, pre, hk, rfl, rfl, hmm, heq, hown, hbel⟩ := hrel
    have hpl : pre.length ≤ 2440 := by
      have := congrArg List.length heq
      simp only [List.length_append] at this
      omega
    have HE := hide heq
    clear heq
    by_cases hlt : k < g.length
    · have H1 := H.below hbel
      obtain ⟨a', cap', hv', -, -, -, ho⟩ := H1.open
      simp only [Value.slice.injEq, true_and] at hv'
      obtain ⟨rfl, rfl⟩ := hv'
      obtain ⟨b, off, rfl, hb, hc⟩ := ho (by omega)
      obtain ⟨p, hp⟩ : ∃ p, g[k]? = some p := ⟨g[k], List.getElem?_eq_getElem hlt⟩
      obtain ⟨da, dc, c0, c1, c2⟩ := hc k p hp
      obtain ⟨hpd, hpp⟩ := hg p (List.mem_of_getElem? hp)
      have hra := Q.riseA_short hpp
      have HDR := hide (dropPt hp)
      obtain ⟨d, hd⟩ : ∃ d, p.d = d := ⟨_, rfl⟩
      obtain ⟨pa, hpa⟩ : ∃ l, p.a = l := ⟨_, rfl⟩
      rw [hd] at c0 hpd
      rw [hpa] at c1 c2 hra
      obtain ⟨X, hX⟩ : ∃ X, X = wr.alloc (.cells #[.int .i64 d, .slice da pa.length dc] 95) := ⟨_, rfl⟩
      have BX : Below wr.heap.size wr X := by rw [hX]; exact below_alloc _ _
      have bX : X.heap[wr.heap.size]? = some (.cells #[.int .i64 d, .slice da pa.length dc] 95 (0, 0)) := by rw [hX]; exact heap_alloc_new wr _
      have SX := c2.below BX
      have HX := hide hX
      have HPD := hide hd
      have HPA := hide hpa
      have OX := own_below hown BX
      have hbk : ∀ j, u5.ownBlock = some j → j < wr.heap.size := fun j hj => (World.ownsRow.lt hown j hj).2
      have zX : X.heap.size = wr.heap.size + 1 := by rw [hX]; simp
      have HZX := hide zX
      have HBK := hide hbk
      have BBX := below_trans' hbel BX
      clear ho hc H1 c2 hp hX hd hpa hpp hown hbk zX
      go_wp2_with fail
      rw [← unhide HX]
      refine (rise_any _ _ _ SX).mono ?_
      rintro e w1 ⟨v1, rfl, O1, B1⟩
      have b1 := box_below bX B1
      have q0 := box_cell b1 (j := 0) rfl
      have OO1 := own_below OX B1
      have BB1 := below_trans' BBX B1
      obtain ⟨v1a, v1c, hv1, -⟩ := id (Sl.owned O1)
      subst hv1
      clear bX SX OX BX BBX B1
      go_wp2_with fail
      refine (put_any _ _).mono ?_
      rintro e w2 ⟨v2, rfl, O2, B2⟩
      have b2 := box_below b1 B2
      have S1 := Sl.owned (own_below O1 B2)
      have O1' := own_below O1 B2
      have OO2 := own_below OO1 B2
      have BB2 := below_trans' BB1 B2
      have S2 := Sl.owned O2
      have hp5 := V.putA_len (d - m - 1)
      obtain ⟨v2a, v2c, hv2, -⟩ := id S2
      subst hv2
      clear b1 q0 OO1 BB1 O1 B2
      have hap : (Value.slice v1a (V.riseA pa).length v1c).ownBlock = none ∨ (Value.slice v1a (V.riseA pa).length v1c).ownBlock ≠ u5.ownBlock := by
        cases hb1 : (Value.slice v1a (V.riseA pa).length v1c).ownBlock with
        | none => exact .inl rfl
        | some j =>
          refine .inr fun e => ?_
          have h1 := (World.ownsRow.lt O1' j hb1).1
          have h2 := unhide HBK j e.symm
          rw [unhide HZX] at h1
          omega
      have HAP := hide hap
      obtain ⟨pu, hpu⟩ : ∃ l, V.putA (d - m - 1) = l := ⟨_, rfl⟩
      obtain ⟨ra, hra'⟩ : ∃ l, V.riseA pa = l := ⟨_, rfl⟩
      rw [hpu] at S2 hp5 O2
      rw [hra'] at O1' S1 hra HAP
      rw [hpu, hra']
      have HPU := hide hpu
      have HRA := hide hra'
      clear hap hpu hra' O2 S1
      go_wp2_with (first
        | (at_builtin; refine append_allK rfl (.tmp 22) (.tmp 28) 33 rfl Tryz.underlying33 hi5 hz0 hz1 hz2 rfl (pre := pre) (zs := pu) rfl rfl S2 OO2 BB2 BB2.size (by omega) (by decide) ?_; intro v3 w3 O3 B3 G3; have b3 := box_grown b2 G3 (own_ne_box OO2 b2 (by decide)); have S13 := Sl.owned (World.ownsRow.kept O1' G3 (unhide HAP)))
        | (at_builtin; refine append_allK rfl (.tmp 30) (.tmp 31) 33 rfl Tryz.underlying33 hi5 hz0 hz1 hz2 rfl (pre := pre ++ pu) (zs := ra) rfl rfl S13 O3 B3 B3.size (by simp; omega) (by decide) ?_; intro v4 w4 O4 B4 G4; have b4 := box_grown b3 G4 (own_ne_box O3 b3 (by decide)); have q4 := box_cell b4 (j := 0) rfl))
      go_roundw
      case rel =>
        refine ⟨k + 1, d, pre ++ pu ++ ra, by omega, by go_num, rfl, by omega, ?_, O4, B4⟩
        rw [unhide HE, unhide HDR, Q.body, unhide HPD, unhide HPA, unhide HPU, unhide HRA]
        simp
      case measure => simp [intOf]; omega
    · have hke : g.drop k = [] := List.drop_eq_nil_of_le (by omega)
      have hfin : Q.body m0 g = pre := by rw [unhide HE, hke]; simp [Q.body]
      have HF := hide hfin
      clear hfin hke
      go_wp2
      go_ret
      exact ⟨_, rfl, by rw [unhide HF]; exact hown, hbel⟩
end Go.Proofs.YtonhehhmnobciaaGreat

/-
  The contract of Pack: the bytes of postings.
-/
namespace Go.Proofs.YtonhehhmnobciaaGreat
set_option maxRecDepth 100000
open Go.RowKit

theorem Q.packA_in {L : List Pt} (h : Q.may L = true) : Q.packA L = Q.bytes L ∧ Q.packE L = 0 := by simp [Q.packA, Q.packE, h]
theorem Q.packA_out {L : List Pt} (h : Q.may L = false) : Q.packA L = [] ∧ Q.packE L = 1 := by simp [Q.packA, Q.packE, h]

theorem Q.lastD_at : ∀ {g : List Pt} {m : Int} {p : Pt}, g[g.length - 1]? = some p → Q.lastD m g = p.d
  | [], _, _, h => by simp at h
  | [x], _, _, h => by simp at h; subst h; rfl
  | x :: y :: r, m, p, h => by
    rw [Q.lastD]
    exact Q.lastD_at (g := y :: r) (by simpa using h)

def PackEnd (w : World) (L : List Pt) (e : Ending) (w' : World) : Prop :=
  ∃ v', e = .returned (.tuple #[v', .int .i64 (Q.packE L)]) ∧ Pb w.heap.size w' v' (Q.packA L) ∧ Below w.heap.size w w'

set_option maxHeartbeats 4000000 in
theorem ppack_any (v : Value) (L : List Pt) (w : World) (h : Pl w v L) :
    Calls Tryz.prog 25 #[v] w fun e w' => PackEnd w L e w' := by
  obtain ⟨i5, hi5, hz0, hz1, hz2⟩ := info_parts Tryz.info5
  have H := h
  obtain ⟨a, cap, rfl, hl, hm, hna, -⟩ := h.open
  clear h
  obtain ⟨mb, hmb⟩ : ∃ mb, Q.may L = mb := ⟨_, rfl⟩
  have HM := hide hmb
  cases mb with
  | false =>
    have HF := hide (Q.packA_out hmb)
    clear hmb
    go_enter Tryz.func25, Tryz.ntmps25
    go_wp2_with (go_at_call 52; refine (pmay_any _ _ _ H).mono ?_; rintro e w1 ⟨rfl, B1⟩; rw [unhide HM])
    exact bodyPost_ret (v := .tuple #[.slice none 0 0, .int .i64 1]) (by simp [results, Tryz.results25, go_sem]) rfl ⟨_, by rw [(unhide HF).2], by rw [(unhide HF).1]; exact World.ownsRow_nil _ _ _ _, B1⟩
  | true =>
    have HF := hide (Q.packA_in hmb)
    have hL := Q.may_le hmb
    have hbb := Q.bytes_len hmb
    clear hmb
    go_enter Tryz.func25, Tryz.ntmps25
    go_wp2_with (go_at_call 52; refine (pmay_any _ _ _ H).mono ?_; rintro e w1 ⟨rfl, B1⟩; rw [unhide HM])
    go_wp2_with fail
    refine (put_any _ _).mono ?_
    rintro e w2 ⟨v2, rfl, O2, B2⟩
    have BB := below_trans' B1 B2
    have O2' := own_mono O2 B1.size
    clear O2 B2 B1
    go_wp2
    go_loopw [4, 5, 6] (fun bv av iv wr => ∃ (j fr : Nat) (m : Int) (pre : List Int), fr = 4 * j ∧ fr ≤ L.length + 3 ∧ iv = .int .i64 fr ∧ av = .int .i64 m ∧ (-1 ≤ m ∧ m ≤ 63) ∧ Q.mayB (m + 1) (L.drop fr) = true ∧ Q.bytes L = pre ++ Q.blks (17 - j) m (L.drop fr) ∧ Pb w.heap.size wr bv pre ∧ Below w.heap.size w wr) (fun _ _ iv _ => L.length + 4 - (intOf iv).toNat)
    case atStart => exact ⟨0, 0, -1, V.putA (L.length : Int), rfl, by omega, rfl, rfl, by omega, unhide HM, rfl, O2', BB⟩
    case round =>
      obtain ⟨j, fr, m, pre, hfr, hfl, rfl, rfl, hmm, hmay, heq, hown, hbel⟩ := hrel
      have hpl : pre.length ≤ 50000 := by
        have := congrArg List.length heq
        simp only [List.length_append] at this
        omega
      have HE := hide heq
      have HFR := hide hfr
      have HMAY := hide hmay
      clear heq hfr hmay
      by_cases hlt : fr < L.length
      · have H1 := H.below hbel
        obtain ⟨hi, hhi⟩ : ∃ hi, hi = min (fr + 4) L.length := ⟨_, rfl⟩
        have C1 := H1.cut fr hi (by omega) (by omega)
        have htk : (L.drop fr).take (hi - fr) = (L.drop fr).take 4 := by
          rw [hhi]
          rcases Nat.le_total (fr + 4) L.length with h4 | h4
          · rw [Nat.min_eq_left h4, show fr + 4 - fr = 4 by omega]
          · rw [Nat.min_eq_right h4, List.take_of_length_le (by simp), List.take_of_length_le (by simp; omega)]
        rw [htk] at C1
        have R1 : ∀ x : Int, x = hi → ∀ w', (Instr.slice 55 (.slice a L.length cap) (some (.int .i64 (fr : Int))) (some (.int .i64 x)) none).run Tryz.prog w' = .ok (sliced a fr hi cap 2) w' := fun x hx w' => by rw [hx]; exact run_pl_within a L.length cap fr hi (by omega) (by omega) w'
        obtain ⟨gv, hgv⟩ : ∃ gv, gv = sliced a fr hi cap 2 := ⟨_, rfl⟩
        rw [← hgv] at C1 R1
        obtain ⟨G, hG⟩ : ∃ G, G = (L.drop fr).take 4 := ⟨_, rfl⟩
        rw [← hG] at C1
        have hGl : 1 ≤ G.length ∧ G.length ≤ 4 := by rw [hG]; simp; omega
        have hst := Q.blks_step (f := 16 - j) (m := m) (L := L.drop fr) (by intro e; have := congrArg List.length e; simp at this; omega)
        rw [show 16 - j + 1 = 17 - j by have := unhide HFR; omega, ← hG, List.drop_drop] at hst
        have HST := hide hst
        obtain ⟨k1, k2⟩ := Q.may_take (unhide HMAY) 4
        rw [← hG] at k1 k2
        rw [List.drop_drop] at k2
        obtain ⟨l1, l2, l3⟩ := Q.lastD_bd k1 hmm.1 hmm.2
        have hl0 := l3 (by intro e; rw [e] at hGl; simp at hGl)
        have HK2 := hide k2
        have hgall : ∀ p ∈ G, (0 ≤ p.d ∧ p.d ≤ 63) ∧ Q.places p.a = true := fun p hp => by
          have := Q.may_all k1 p hp
          exact ⟨by omega, this.2⟩
        have HB := hide (body_any gv G m wr C1 hGl.2 hmm hgall)
        have hbl := Q.body_len (g := G) (m := m) (fun p hp => (hgall p hp).2)
        obtain ⟨ga, gc, hgf⟩ := C1.form
        obtain ⟨gn, hgn⟩ : ∃ gn, gn = G.length := ⟨_, rfl⟩
        obtain ⟨p, hp⟩ : ∃ p, G[gn - 1]? = some p := ⟨G[gn - 1]'(by omega), List.getElem?_eq_getElem (by omega)⟩
        have hlast : Q.lastD m G = p.d := Q.lastD_at (by rw [← hgn]; exact hp)
        obtain ⟨a', c', hv', -, -, -, ho⟩ := C1.open
        rw [hgf] at hv'
        simp only [Value.slice.injEq, true_and] at hv'
        obtain ⟨rfl, rfl⟩ := hv'
        obtain ⟨gb, goff, rfl, hgb, hc⟩ := ho (by omega)
        obtain ⟨da, dc, c0, -, -⟩ := hc (gn - 1) p hp
        rw [← hgn] at hgf
        subst hgf
        rw [← hlast] at c0
        obtain ⟨ld, hld⟩ : ∃ ld, ld = Q.lastD m G := ⟨_, rfl⟩
        rw [← hld] at c0 l1 l2 hl0
        have HLD := hide hld
        have HG := hide hG
        have HGN := hide hgn
        have hgn1 : 1 ≤ gn ∧ gn ≤ 4 := by omega
        have HHI := hide hhi
        have HOWN := hide hown
        clear hst k1 k2 l3 hgall hGl ho hc hlast hp hgv hG hgn hhi C1 H1 htk hld hown
        by_cases h4 : fr + 4 ≤ L.length
        · have R2 := R1 ((fr : Int) + 4) (by have := unhide HHI; omega)
          have h4' : (fr : Int) + 4 ≤ (L.length : Int) := by omega
          clear R1
          go_wp2_with fail
          refine (unhide HB).mono ?_
          rintro e w3 ⟨v3, rfl, P3, B3⟩
          have d0 := cell_keep c0 B3
          have O3 := own_below (unhide HOWN) B3
          have BB3 := below_trans' hbel B3
          have F3 : Far u4 v3 := Far.new (unhide HOWN) P3 (Nat.le_refl _)
          have T3 : P3 = P3 := rfl
          obtain ⟨bd, hbd⟩ : ∃ l, Q.body m G = l := ⟨_, rfl⟩
          rw [hbd] at P3 hbl
          have HBD := hide hbd
          have hbl2 : bd.length ≤ 2440 := by have := unhide HGN; omega
          obtain ⟨v3a, v3c, hv3, -⟩ := id P3.sl
          subst hv3
          have HP3 := hide P3
          clear hbd c0 P3 T3 hbl
          go_wp2_with fail
          refine (put_any _ _).mono ?_
          rintro e w4 ⟨v4, rfl, P4, B4⟩
          have O4 := own_below O3 B4
          have BB4 := below_trans' BB3 B4
          have P34 := own_below (unhide HP3) B4
          have S4 := Sl.owned P4
          have n4 : 0 < (V.putA ld).length := by rw [V.putA_in ⟨hl0, by omega⟩]; have := (V.put_len ld).1; omega
          have m4 := V.putA_len ld
          obtain ⟨v4a, v4c, hv4, -⟩ := id S4
          subst hv4
          obtain ⟨pl, hpl4⟩ : ∃ l, V.putA ld = l := ⟨_, rfl⟩
          rw [hpl4] at S4 n4 m4
          rw [hpl4]
          have HPL := hide hpl4
          clear hpl4 P4 O3 BB3 d0 B3 B4
          go_wp2_with (at_builtin; refine append_allL rfl (.tmp 39) (.tmp 41) 33 rfl Tryz.underlying33 hi5 hz0 hz1 hz2 rfl (pre := pre) (zs := pl) rfl rfl S4 n4 O4 BB4 BB4.size (by omega) (by decide) ?_; intro v5 w5 O5 BB5 G5 L5; have P35 := Far.kept F3 P34 G5; have F5 := Far.step F3 P34 L5)
          go_wp2_with fail
          refine (put_any _ _).mono ?_
          rintro e w6 ⟨v6, rfl, P6, B6⟩
          have O6 := own_below O5 B6
          have BB6 := below_trans' BB5 B6
          have P36 := own_below P35 B6
          have S6 := Sl.owned P6
          have n6 : 0 < (V.putA (bd.length : Int)).length := by rw [V.putA_in ⟨by omega, by omega⟩]; have := (V.put_len (bd.length : Int)).1; omega
          have m6 := V.putA_len (bd.length : Int)
          obtain ⟨v6a, v6c, hv6, -⟩ := id S6
          subst hv6
          obtain ⟨pn, hpn⟩ : ∃ l, V.putA (bd.length : Int) = l := ⟨_, rfl⟩
          rw [hpn] at S6 n6 m6
          rw [hpn]
          have HPN := hide hpn
          clear hpn P6 O5 BB5 O4 BB4 S4 P34 G5 L5 B6 P35
          go_wp2_with (first
            | (at_builtin; refine append_allL rfl (.tmp 43) (.tmp 46) 33 rfl Tryz.underlying33 hi5 hz0 hz1 hz2 rfl (pre := pre ++ pl) (zs := pn) rfl rfl S6 n6 O6 BB6 BB6.size (by simp; omega) (by decide) ?_; intro v7 w7 O7 BB7 G7 L7; have P37 := Sl.owned (Far.kept F5 P36 G7))
            | (at_builtin; refine append_allK rfl (.tmp 48) (.tmp 49) 33 rfl Tryz.underlying33 hi5 hz0 hz1 hz2 rfl (pre := pre ++ pl ++ pn) (zs := bd) rfl rfl P37 O7 BB7 BB7.size (by simp; omega) (by decide) ?_; intro v8 w8 O8 BB8 G8))
          go_roundw
          case rel =>
            refine ⟨j + 1, fr + 4, ld, pre ++ pl ++ pn ++ bd, by have := unhide HFR; omega, by omega, by go_num, rfl, by omega, by rw [unhide HLD]; exact unhide HK2, ?_, O8, BB8⟩
            rw [unhide HE, unhide HST, show 17 - (j + 1) = 16 - j by omega, Q.head, unhide HBD, unhide HPN, ← unhide HLD, unhide HPL]
            simp
          case measure => simp [intOf]; omega
        · have R2 := R1 (L.length : Int) (by have := unhide HHI; omega)
          have h4' : (L.length : Int) < (fr : Int) + 4 := by omega
          clear R1
          go_wp2_with fail
          refine (unhide HB).mono ?_
          rintro e w3 ⟨v3, rfl, P3, B3⟩
          have d0 := cell_keep c0 B3
          have O3 := own_below (unhide HOWN) B3
          have BB3 := below_trans' hbel B3
          have F3 : Far u4 v3 := Far.new (unhide HOWN) P3 (Nat.le_refl _)
          have T3 : P3 = P3 := rfl
          obtain ⟨bd, hbd⟩ : ∃ l, Q.body m G = l := ⟨_, rfl⟩
          rw [hbd] at P3 hbl
          have HBD := hide hbd
          have hbl2 : bd.length ≤ 2440 := by have := unhide HGN; omega
          obtain ⟨v3a, v3c, hv3, -⟩ := id P3.sl
          subst hv3
          have HP3 := hide P3
          clear hbd c0 P3 T3 hbl
          go_wp2_with fail
          refine (put_any _ _).mono ?_
          rintro e w4 ⟨v4, rfl, P4, B4⟩
          have O4 := own_below O3 B4
          have BB4 := below_trans' BB3 B4
          have P34 := own_below (unhide HP3) B4
          have S4 := Sl.owned P4
          have n4 : 0 < (V.putA ld).length := by rw [V.putA_in ⟨hl0, by omega⟩]; have := (V.put_len ld).1; omega
          have m4 := V.putA_len ld
          obtain ⟨v4a, v4c, hv4, -⟩ := id S4
          subst hv4
          obtain ⟨pl, hpl4⟩ : ∃ l, V.putA ld = l := ⟨_, rfl⟩
          rw [hpl4] at S4 n4 m4
          rw [hpl4]
          have HPL := hide hpl4
          clear hpl4 P4 O3 BB3 d0 B3 B4
          go_wp2_with (at_builtin; refine append_allL rfl (.tmp 39) (.tmp 41) 33 rfl Tryz.underlying33 hi5 hz0 hz1 hz2 rfl (pre := pre) (zs := pl) rfl rfl S4 n4 O4 BB4 BB4.size (by omega) (by decide) ?_; intro v5 w5 O5 BB5 G5 L5; have P35 := Far.kept F3 P34 G5; have F5 := Far.step F3 P34 L5)
          go_wp2_with fail
          refine (put_any _ _).mono ?_
          rintro e w6 ⟨v6, rfl, P6, B6⟩
          have O6 := own_below O5 B6
          have BB6 := below_trans' BB5 B6
          have P36 := own_below P35 B6
          have S6 := Sl.owned P6
          have n6 : 0 < (V.putA (bd.length : Int)).length := by rw [V.putA_in ⟨by omega, by omega⟩]; have := (V.put_len (bd.length : Int)).1; omega
          have m6 := V.putA_len (bd.length : Int)
          obtain ⟨v6a, v6c, hv6, -⟩ := id S6
          subst hv6
          obtain ⟨pn, hpn⟩ : ∃ l, V.putA (bd.length : Int) = l := ⟨_, rfl⟩
          rw [hpn] at S6 n6 m6
          rw [hpn]
          have HPN := hide hpn
          clear hpn P6 O5 BB5 O4 BB4 S4 P34 G5 L5 B6 P35
          go_wp2_with (first
            | (at_builtin; refine append_allL rfl (.tmp 43) (.tmp 46) 33 rfl Tryz.underlying33 hi5 hz0 hz1 hz2 rfl (pre := pre ++ pl) (zs := pn) rfl rfl S6 n6 O6 BB6 BB6.size (by simp; omega) (by decide) ?_; intro v7 w7 O7 BB7 G7 L7; have P37 := Sl.owned (Far.kept F5 P36 G7))
            | (at_builtin; refine append_allK rfl (.tmp 48) (.tmp 49) 33 rfl Tryz.underlying33 hi5 hz0 hz1 hz2 rfl (pre := pre ++ pl ++ pn) (zs := bd) rfl rfl P37 O7 BB7 BB7.size (by simp; omega) (by decide) ?_; intro v8 w8 O8 BB8 G8))
          go_roundw
          case rel =>
            refine ⟨j + 1, fr + 4, ld, pre ++ pl ++ pn ++ bd, by have := unhide HFR; omega, by omega, by go_num, rfl, by omega, by rw [unhide HLD]; exact unhide HK2, ?_, O8, BB8⟩
            rw [unhide HE, unhide HST, show 17 - (j + 1) = 16 - j by omega, Q.head, unhide HBD, unhide HPN, ← unhide HLD, unhide HPL]
            simp
          case measure => simp [intOf]; omega
      · have hfin : Q.bytes L = pre := by rw [unhide HE, List.drop_eq_nil_of_le (by omega), Q.blks_nil, List.append_nil]
        have HFI := hide hfin
        clear hfin
        obtain ⟨xa, xc, hx, -⟩ := id (Pb.sl hown)
        subst hx
        go_wp2
        exact bodyPost_ret (v := .tuple #[.slice xa pre.length xc, .int .i64 0]) (by simp [results, Tryz.results25, go_sem]) rfl ⟨_, by rw [(unhide HF).2], by rw [(unhide HF).1, unhide HFI]; exact hown, hbel⟩
end Go.Proofs.YtonhehhmnobciaaGreat
