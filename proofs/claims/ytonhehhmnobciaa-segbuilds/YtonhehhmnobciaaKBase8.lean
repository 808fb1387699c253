/-
  Slices whose elements have several cells ('Kl'), read and of the call's own; cards ('Cs'), words with their postings ('Ts'), segments ('Sv'). No function of the program is named here.
-/
import Derived.Test.YtonhehhmnobciaaRows
import Derived.Test.YtonhehhmnobciaaBase8
import Derived.Test.YtonhehhmnobciaaPlain8
import Derived.Test.YtonhehhmnobciaaAppK6
import Derived.Deep.AppendLies
namespace Go.Proofs.Ytonhehhmnobciaa
set_option maxRecDepth 100000
open Go.RowKit

abbrev Pts := Option Addr × Nat × Nat
theorem sv_one (s : Pts) : (sv s).oneCell' = true := rfl

section
variable {α : Type} {f : α → List Value} {k : Nat}

theorem flat_len (hk : ∀ y, (f y).length = k) : ∀ l : List α, (l.flatMap f).length = l.length * k
  | [] => by simp
  | y :: l => by
    have := flat_len hk l
    simp only [List.flatMap_cons, List.length_append, hk, this, List.length_cons, Nat.add_mul, Nat.one_mul]
    omega

theorem flat_at (hk : ∀ y, (f y).length = k) : ∀ {l : List α} {i : Nat} {y : α}, l[i]? = some y → ∀ j, j < k → (l.flatMap f)[i * k + j]? = (f y)[j]?
  | [], i, y, h, _, _ => by simp at h
  | z :: l, i, y, h, j, hj => by
    rw [List.flatMap_cons]
    cases i with
    | zero =>
      simp at h
      subst h
      rw [Nat.zero_mul, Nat.zero_add, List.getElem?_append_left (by rw [hk]; exact hj)]
    | succ i =>
      rw [List.getElem?_append_right (by rw [hk, Nat.add_mul, Nat.one_mul]; omega), hk, show (i + 1) * k + j - k = i * k + j by rw [Nat.add_mul, Nat.one_mul]; omega]
      exact flat_at hk (by simpa using h) j hj

theorem flat_inv (hk : ∀ y, (f y).length = k) : ∀ {l : List α} {j : Nat} {u : Value}, (l.flatMap f)[j]? = some u → ∃ i y r, l[i]? = some y ∧ (f y)[r]? = some u ∧ j = i * k + r
  | [], j, u, h => by simp at h
  | z :: l, j, u, h => by
    rw [List.flatMap_cons] at h
    rcases Nat.lt_or_ge j k with h1 | h1
    · rw [List.getElem?_append_left (by rw [hk]; exact h1)] at h
      exact ⟨0, z, j, rfl, h, by omega⟩
    · rw [List.getElem?_append_right (by rw [hk]; exact h1), hk] at h
      obtain ⟨i, y, r, h2, h3, h4⟩ := flat_inv hk h
      exact ⟨i + 1, y, r, by simpa using h2, h3, by rw [Nat.add_mul, Nat.one_mul]; omega⟩

/-- The slice value v reads, in w, as l, each element of k cells as f has them. -/
def Kl (f : α → List Value) (k : Nat) (w : World) (v : Value) (l : List α) : Prop :=
  ∃ a cap, v = .slice a l.length cap ∧ l.length ≤ cap ∧ cap ≤ maxLen ∧ (a = none → cap = 0) ∧
    ∀ x, a = some x → ∀ i y, l[i]? = some y → ∀ j u, (f y)[j]? = some u → w.cell? (x.add (i * k + j)) = some u

theorem Kl.nil (f : α → List Value) (k : Nat) (w : World) : Kl f k w (.slice none 0 0) [] :=
  ⟨none, 0, rfl, Nat.le_refl _, Nat.zero_le _, fun _ => rfl, fun _ h => by cases h⟩

theorem Kl.below {w w' : World} {v : Value} {l : List α} (h : Kl f k w v l) (hb : Below w.heap.size w w') : Kl f k w' v l := by
  obtain ⟨a, cap, hv, hl, hm, hn, hc⟩ := h
  refine ⟨a, cap, hv, hl, hm, hn, fun x hx i y hi j u hu => ?_⟩
  have h0 := hc x hx i y hi j u hu
  rw [hb.cell (World.block_lt_of_cell? w _ h0)]
  exact h0

theorem Kl.open {w : World} {v : Value} {l : List α} (h : Kl f k w v l) (hk : ∀ y, (f y).length = k) (hk0 : 0 < k) :
    ∃ a cap, v = .slice a l.length cap ∧ l.length ≤ cap ∧ cap ≤ 9223372036854775807 ∧ (a = none → cap = 0) ∧
      (0 < l.length → ∃ b off, a = some ⟨b, off, none⟩ ∧ b < w.heap.size ∧ ∀ i y, l[i]? = some y → ∀ j u, (f y)[j]? = some u → w.cell? ⟨b, off + (i * k + j), none⟩ = some u) := by
  obtain ⟨a, cap, hv, hl, hm, hn, hc⟩ := h
  refine ⟨a, cap, hv, hl, hm, hn, fun hp => ?_⟩
  cases a with
  | none => have := hn rfl; omega
  | some x =>
    obtain ⟨b, off, spot⟩ := x
    have hz : 0 < (f l[0]).length := by rw [hk]; exact hk0
    have h0 := hc _ rfl 0 l[0] (List.getElem?_eq_getElem hp) 0 _ (List.getElem?_eq_getElem hz)
    have hs : spot = none := by simpa [Addr.add] using World.cell?_spot h0
    subst hs
    refine ⟨b, off, rfl, ?_, fun i y hi j u hu => by rw [← Addr.add_lit]; exact hc _ rfl i y hi j u hu⟩
    simpa [Addr.add] using World.block_lt_of_cell? w _ h0

theorem Kl.owned {w : World} {B : Nat} {e : TypeId} {v : Value} {l : List α} {n : Nat} (hk : ∀ y, (f y).length = k) (hk0 : 0 < k) (h : w.ownsRow B e k v n (l.flatMap f)) : Kl f k w v l := by
  have hl := h.1
  rw [flat_len hk] at hl
  have hl : l.length = n := Nat.eq_of_mul_eq_mul_right hk0 hl
  subst hl
  rcases id h.2 with ⟨rfl, h0⟩ | ⟨g, cap, cur, rfl, hb, hg, hn, hm, hs, ht⟩
  · have : l = [] := List.eq_nil_of_length_eq_zero h0
    subst this
    exact Kl.nil f k w
  · refine ⟨_, cap, rfl, hn, hm, (fun h => by cases h), fun x hx i y hi j u hu => ?_⟩
    obtain rfl := Option.some.inj hx
    have hj : j < k := by have := (List.getElem?_eq_some_iff.1 hu).1; rw [hk] at this; exact this
    exact h.cells (g := g) rfl (i * k + j) u (by rw [flat_at hk hi j hj]; exact hu)

/-- 'out = append(out, y)': the row, one longer; where it lies; what stays. -/
theorem append_oneF {P : Program} {ops : Array Oper} {rest : List Oper} {o : Oper} {a : Act} {Q : Exit → Act → World → Prop} {wr : World} (hgd : o.guard = none) (s x : Operand) (t : TypeId)
    (ho : o.op = .call { callee := .builtin .append, args := #[s, x], argTypes := #[t, t] }) {B : Nat} {e : TypeId} {i : TypeInfo} {z : Value} {bytes : Nat}
    (ht : P.underlying t = some (.slice e)) (hi : P.info? e = some i) (hz : i.zero = some z) (hsize : i.size = k) (hby : i.bytes = bytes) (hzs : z.cells.size = k) (hk0 : 0 < k)
    (hk : ∀ y, (f y).length = k) (hf : ∀ y, ∀ u ∈ f y, u.oneCell' = true) {pre : List α} (y : α) {cs : Array Value} (hcs : cs.toList = f y) {v : Value} (hs : a.eval s = v) {n : Nat} (hx : a.eval x = .slice (some ⟨n, 0, none⟩) 1 1) (hn : n = wr.heap.size)
    (hown : wr.ownsRow B e k v pre.length (pre.flatMap f)) (hB : B ≤ wr.heap.size) (hlen : pre.length < 4294967296) (hb8 : bytes ≤ 64)
    (h : ∀ g cap w', w'.ownsRow B e k (.slice (some ⟨g, 0, none⟩) (pre.length + 1) cap) (pre ++ [y]).length ((pre ++ [y]).flatMap f) → wr.grownBy w' v.ownBlock → (v.ownBlock = some g ∨ wr.heap.size ≤ g) → wpList P ops Q rest (a.put o.dst (.slice (some ⟨g, 0, none⟩) (pre.length + 1) cap)) w') :
    wpList P ops Q (o :: rest) a (wr.alloc (.cells cs e)) := by
  subst hn
  refine wpList_append_lies _ hgd s x t ho B e i z k bytes ht hi hz hsize hby hzs hk0 v pre.length _ hs (hown.alloc _) ⟨wr.heap.size, 0, none⟩ 1 1 (f y) hx (by rw [hk, Nat.one_mul]) ?_ (hf y) (by omega) ?_ ?_ ?_ (wr.heap.size + 1) (by simp) ?_
  · intro j u hj
    have : cs[j]? = some u := by rw [← Array.getElem?_toList, hcs]; exact hj
    rw [Addr.add_lit, Nat.zero_add]
    exact box_cell (heap_alloc_new wr _) this
  · unfold maxLen; omega
  · have h1 : (pre.length + 1) * bytes ≤ 4294967296 * 64 := Nat.mul_le_mul (by omega) hb8
    omega
  · simp; omega
  · intro g cap w1 hown' hg hat _
    refine h g cap w1 (by simpa using hown') ((World.grownBy_alloc _ _ _).trans hg) ?_
    rcases hat with h1 | h1
    · exact .inl h1
    · exact .inr (by omega)

/-- 'append(out, xs...)'. -/
theorem append_allF {P : Program} {ops : Array Oper} {rest : List Oper} {o : Oper} {a : Act} {Q : Exit → Act → World → Prop} {wr : World} (hgd : o.guard = none) (s x : Operand) (t : TypeId)
    (ho : o.op = .call { callee := .builtin .append, args := #[s, x], argTypes := #[t, t] }) {B : Nat} {e : TypeId} {i : TypeInfo} {z : Value} {bytes : Nat}
    (ht : P.underlying t = some (.slice e)) (hi : P.info? e = some i) (hz : i.zero = some z) (hsize : i.size = k) (hby : i.bytes = bytes) (hzs : z.cells.size = k) (hk0 : 0 < k)
    (hk : ∀ y, (f y).length = k) (hf : ∀ y, ∀ u ∈ f y, u.oneCell' = true) {pre zs : List α} {v u : Value} (hs : a.eval s = v) (hx : a.eval x = u) (hu : Kl f k wr u zs)
    (hown : wr.ownsRow B e k v pre.length (pre.flatMap f)) (hB : B ≤ wr.heap.size) (hlen : pre.length + zs.length ≤ 4294967296) (hb8 : bytes ≤ 64)
    (h : ∀ v' w', w'.ownsRow B e k v' (pre ++ zs).length ((pre ++ zs).flatMap f) → wr.grownBy w' v.ownBlock → wpList P ops Q rest (a.put o.dst v') w') :
    wpList P ops Q (o :: rest) a wr := by
  obtain ⟨ao, cap, rfl, hl, hm, hn, hc⟩ := hu
  cases ao with
  | none =>
    have hcap := hn rfl
    subst hcap
    have hz0 : zs = [] := List.eq_nil_of_length_eq_zero (by omega)
    subst hz0
    refine wpList_append_own_none hgd s x t ho B e i k ht hi v pre.length _ hs hown hx ?_
    exact h v wr (by simpa using hown) ⟨rfl, rfl, rfl, Nat.le_refl _, fun _ _ _ => rfl⟩
  | some ad =>
    refine wpList_append_own _ hgd s x t ho B e i z k bytes ht hi hz hsize hby hzs hk0 v pre.length _ hs hown ad zs.length cap (zs.flatMap f) hx (flat_len hk zs) ?_ ?_ ?_ ?_ hB ?_
    · intro j y hj
      obtain ⟨i', y', r, h1, h2, rfl⟩ := flat_inv hk hj
      exact hc ad rfl i' y' h1 r y h2
    · intro u hu
      obtain ⟨y, _, hy⟩ := List.mem_flatMap.1 hu
      exact hf y u hy
    · unfold maxLen; omega
    · have h1 : (pre.length + zs.length) * bytes ≤ 4294967296 * 64 := Nat.mul_le_mul hlen hb8
      omega
    · intro v' w1 hown' hg _
      exact h v' w1 (by simpa using hown') hg
end

/-- 'out = append(out, y)' at elements of one cell: the row, one longer; where it lies; what stays. -/
theorem append_oneL {α : Type} {f : α → Value} {P : Program} {ops : Array Oper} {rest : List Oper} {o : Oper} {a : Act} {Q : Exit → Act → World → Prop} {wr : World} (hgd : o.guard = none) (s x : Operand) (t : TypeId)
    (ho : o.op = .call { callee := .builtin .append, args := #[s, x], argTypes := #[t, t] }) {B : Nat} {e : TypeId} {i : TypeInfo} {z : Value} {bytes : Nat}
    (ht : P.underlying t = some (.slice e)) (hi : P.info? e = some i) (hz : i.zero = some z) (hsize : i.size = 1) (hby : i.bytes = bytes) (hzs : z.cells.size = 1)
    (hf : ∀ y, (f y).oneCell' = true) {pre : List α} (y : α) {v : Value} (hs : a.eval s = v) {n : Nat} (hx : a.eval x = .slice (some ⟨n, 0, none⟩) 1 1) (hn : n = wr.heap.size)
    (hown : wr.ownsRow B e 1 v pre.length (pre.map f)) (hB : B ≤ wr.heap.size) (hlen : (pre.length + 1) * bytes ≤ 140737488355328) (hlen2 : pre.length < 140737488355328)
    (h : ∀ g cap w', w'.ownsRow B e 1 (.slice (some ⟨g, 0, none⟩) (pre.length + 1) cap) (pre ++ [y]).length ((pre ++ [y]).map f) → wr.grownBy w' v.ownBlock → (v.ownBlock = some g ∨ wr.heap.size ≤ g) → wpList P ops Q rest (a.put o.dst (.slice (some ⟨g, 0, none⟩) (pre.length + 1) cap)) w') :
    wpList P ops Q (o :: rest) a (wr.alloc (.cells #[f y] e)) := by
  subst hn
  refine wpList_append_lies _ hgd s x t ho B e i z 1 bytes ht hi hz hsize hby hzs (by decide) v pre.length _ hs (hown.alloc _) ⟨wr.heap.size, 0, none⟩ 1 1 [f y] hx rfl ?_ ?_ (by omega) ?_ hlen ?_ (wr.heap.size + 1) (by simp) ?_
  · intro j u hj
    match j, hj with
    | 0, hj => simp at hj; subst hj; simp [Addr.add]
  · intro u hu; simp at hu; subst hu; exact hf y
  · unfold maxLen; omega
  · simp; omega
  · intro g cap w1 hown' hg hat _
    refine h g cap w1 (by simpa using hown') ((World.grownBy_alloc _ _ _).trans hg) ?_
    rcases hat with h1 | h1
    · exact .inl h1
    · exact .inr (by omega)

/-! ### Cards -/

/-- The three cells of a card, whose words lie where the slice says. -/
def encC (p : Cd × Pts) : List Value := [.string p.1.id, .int .i64 p.1.key, sv p.2]
theorem encC_len (p : Cd × Pts) : (encC p).length = 3 := rfl
theorem encC_one (p : Cd × Pts) : ∀ u ∈ encC p, u.oneCell' = true := by
  intro u hu
  simp only [encC, List.mem_cons, List.not_mem_nil, or_false] at hu
  rcases hu with rfl | rfl | rfl <;> rfl
theorem Try.infoC : (Try.prog.info? 25).map (fun i => (i.zero, i.size, i.bytes)) = some (some (.agg #[.string ⟨#[]⟩, .int .i64 0, .slice none 0 0]), 3, 48) := by kernel_rfl

/-- The words of each lie, in w, where its slice says. -/
def Ws (w : World) (ps : List (Cd × Pts)) : Prop := ∀ p ∈ ps, Gl .string w (sv p.2) p.1.w
theorem Ws.below {w w' : World} {ps : List (Cd × Pts)} (h : Ws w ps) (hb : Below w.heap.size w w') : Ws w' ps := fun p hp => (h p hp).below hb

/-- The slice value v reads, in w, as the cards L. -/
def Cs (w : World) (v : Value) (L : List Cd) : Prop := ∃ ps, Kl encC 3 w v ps ∧ ps.map (·.1) = L ∧ Ws w ps

theorem Cs.nil (w : World) : Cs w (.slice none 0 0) [] := ⟨[], Kl.nil _ _ _, rfl, fun p hp => by cases hp⟩
theorem Cs.below {w w' : World} {v : Value} {L : List Cd} (h : Cs w v L) (hb : Below w.heap.size w w') : Cs w' v L := by
  obtain ⟨ps, h1, h2, h3⟩ := h
  exact ⟨ps, h1.below hb, h2, h3.below hb⟩

theorem Cs.open {w : World} {v : Value} {L : List Cd} (h : Cs w v L) :
    ∃ a cap, v = .slice a L.length cap ∧ L.length ≤ cap ∧ cap ≤ 9223372036854775807 ∧ (a = none → cap = 0) ∧
      (0 < L.length → ∃ b off, a = some ⟨b, off, none⟩ ∧ b < w.heap.size ∧ ∀ i c, L[i]? = some c → ∃ wa wc, w.cell? ⟨b, off + i * 3, none⟩ = some (.string c.id) ∧ w.cell? ⟨b, off + i * 3 + 1, none⟩ = some (.int .i64 c.key) ∧
        w.cell? ⟨b, off + i * 3 + 2, none⟩ = some (.slice wa c.w.length wc) ∧ Gl .string w (.slice wa c.w.length wc) c.w) := by
  obtain ⟨ps, h1, rfl, h3⟩ := h
  obtain ⟨a, cap, rfl, hl, hm, hn, ho⟩ := h1.open encC_len (by decide)
  rw [List.length_map]
  refine ⟨a, cap, rfl, hl, hm, hn, fun hp => ?_⟩
  obtain ⟨b, off, rfl, hb, hc⟩ := ho hp
  refine ⟨b, off, rfl, hb, fun i c hi => ?_⟩
  rw [List.getElem?_map] at hi
  obtain ⟨p, hp', rfl⟩ := Option.map_eq_some_iff.1 hi
  have g := h3 p (List.mem_of_getElem? hp')
  obtain ⟨wa, wc, hv, -⟩ := id g
  have c0 := hc i p hp' 0 _ rfl
  have c1 := hc i p hp' 1 _ rfl
  have c2 := hc i p hp' 2 _ rfl
  rw [hv] at c2 g
  exact ⟨wa, wc, c0, c1, c2, g⟩

/-- Cards in a row of the call's own. -/
theorem Cs.own {w : World} {B n : Nat} {v : Value} {ps : List (Cd × Pts)} (h : w.ownsRow B 25 3 v n (ps.flatMap encC)) (hw : Ws w ps) : Cs w v (ps.map (·.1)) := ⟨ps, Kl.owned encC_len (by decide) h, rfl, hw⟩

/-! ### Words with their postings -/

structure Tm where
  t : ByteArray
  p : List Pt
/-- The two cells of a word, whose postings lie where the slice says. -/
def encT (p : Tm × Pts) : List Value := [.string p.1.t, sv p.2]
theorem encT_len (p : Tm × Pts) : (encT p).length = 2 := rfl
theorem encT_one (p : Tm × Pts) : ∀ u ∈ encT p, u.oneCell' = true := by
  intro u hu
  simp only [encT, List.mem_cons, List.not_mem_nil, or_false] at hu
  rcases hu with rfl | rfl <;> rfl
theorem Try.infoT : (Try.prog.info? 66).map (fun i => (i.zero, i.size, i.bytes)) = some (some (.agg #[.string ⟨#[]⟩, .slice none 0 0]), 2, 40) := by kernel_rfl

/-- The slice value v reads, in w, as the words L with their postings. -/
def Ts (w : World) (v : Value) (L : List Tm) : Prop := ∃ ps : List (Tm × Pts), Kl encT 2 w v ps ∧ ps.map (·.1) = L ∧ ∀ p ∈ ps, Pl w (sv p.2) p.1.p

theorem Ts.nil (w : World) : Ts w (.slice none 0 0) [] := ⟨[], Kl.nil _ _ _, rfl, fun p hp => by cases hp⟩
theorem Ts.below {w w' : World} {v : Value} {L : List Tm} (h : Ts w v L) (hb : Below w.heap.size w w') : Ts w' v L := by
  obtain ⟨ps, h1, h2, h3⟩ := h
  exact ⟨ps, h1.below hb, h2, fun p hp => (h3 p hp).below hb⟩

theorem Ts.open {w : World} {v : Value} {L : List Tm} (h : Ts w v L) :
    ∃ a cap, v = .slice a L.length cap ∧ L.length ≤ cap ∧ cap ≤ 9223372036854775807 ∧ (a = none → cap = 0) ∧
      (0 < L.length → ∃ b off, a = some ⟨b, off, none⟩ ∧ b < w.heap.size ∧ ∀ i c, L[i]? = some c → ∃ wa wc, w.cell? ⟨b, off + i * 2, none⟩ = some (.string c.t) ∧
        w.cell? ⟨b, off + i * 2 + 1, none⟩ = some (.slice wa c.p.length wc) ∧ Pl w (.slice wa c.p.length wc) c.p) := by
  obtain ⟨ps, h1, rfl, h3⟩ := h
  obtain ⟨a, cap, rfl, hl, hm, hn, ho⟩ := h1.open encT_len (by decide)
  rw [List.length_map]
  refine ⟨a, cap, rfl, hl, hm, hn, fun hp => ?_⟩
  obtain ⟨b, off, rfl, hb, hc⟩ := ho hp
  refine ⟨b, off, rfl, hb, fun i c hi => ?_⟩
  rw [List.getElem?_map] at hi
  obtain ⟨p, hp', rfl⟩ := Option.map_eq_some_iff.1 hi
  have g := h3 p (List.mem_of_getElem? hp')
  obtain ⟨wa, wc, hv, -⟩ := id g
  have c0 := hc i p hp' 0 _ rfl
  have c1 := hc i p hp' 1 _ rfl
  rw [hv] at c1 g
  exact ⟨wa, wc, c0, c1, g⟩

theorem Ts.own {w : World} {B n : Nat} {v : Value} {ps : List (Tm × Pts)} (h : w.ownsRow B 66 2 v n (ps.flatMap encT)) (hw : ∀ p ∈ ps, Pl w (sv p.2) p.1.p) : Ts w v (ps.map (·.1)) := ⟨ps, Kl.owned encT_len (by decide) h, rfl, hw⟩

/-! ### Segments -/

structure Sg where
  ids : List ByteArray
  keys : List Int
  lens : List Int
  ts : List Tm

/-- The four slices read, in w, as the parts of a segment. -/
def Sv (w : World) (iv kv lv tv : Value) (s : Sg) : Prop := Gl .string w iv s.ids ∧ Sl .i64 w kv s.keys ∧ Sl .i64 w lv s.lens ∧ Ts w tv s.ts
theorem Sv.below {w w' : World} {iv kv lv tv : Value} {s : Sg} (h : Sv w iv kv lv tv s) (hb : Below w.heap.size w w') : Sv w' iv kv lv tv s := ⟨h.1.below hb, h.2.1.below hb, h.2.2.1.below hb, h.2.2.2.below hb⟩
def Sg.none : Sg := ⟨[], [], [], []⟩
theorem Sv.none (w : World) : Sv w (.slice none 0 0) (.slice none 0 0) (.slice none 0 0) (.slice none 0 0) Sg.none := ⟨Gl.nil _ _, Sl.nil _ _, Sl.nil _ _, Ts.nil _⟩

namespace S
/-- The postings of a word, as the walks have them. -/
def pt (q : Int × List Int) : Pt := ⟨q.1, q.2⟩
def term (l : List Cd) (t : ByteArray) : Tm := ⟨t, (posts l t).map pt⟩
/-- The segment of cards. -/
def seg (l : List Cd) : Sg := ⟨l.map (·.id), l.map (·.key), l.map (fun c => (c.w.length : Int)), (words l).map (term l)⟩
end S
end Go.Proofs.Ytonhehhmnobciaa
