/-
  The plain mathematics of layer 7: words in their order, where a word stands, the words of many lists. No program is named here.
-/
import Derived.Test.YtonhehhmnobciaaOrd7
namespace Go.Proofs.Ytonhehhmnobciaa
set_option maxRecDepth 100000
namespace D

/-- Is each above the one ahead (the first one above a), and of at most 32 bytes? -/
def up : ByteArray → List ByteArray → Bool
  | _, [] => true
  | a, x :: l => K.lt a x && decide (x.size ≤ 32) && up x l

/-- Words may be. -/
def may (l : List ByteArray) : Bool := decide (l.length ≤ 200) && up ⟨#[]⟩ l

/-- Each is above all ahead. -/
def Rise (l : List ByteArray) : Prop := l.Pairwise fun x y => K.lt x y = true

theorem data_nil {x : ByteArray} (h : x.size = 0) : x = ⟨#[]⟩ := by
  have e : x.data.toList = [] := List.eq_nil_of_length_eq_zero (by simpa using h)
  exact ByteArray.ext (Array.ext' e)

theorem lt_none (x : ByteArray) : K.lt ⟨#[]⟩ x = decide (1 ≤ x.size) := by
  rw [K.lt_end ⟨#[]⟩ x 0 rfl (.inl (Nat.le_refl _)) (Nat.zero_le _) (Nat.zero_le _)]
  rfl

theorem up_all : ∀ {l : List ByteArray} {a : ByteArray}, up a l = true → Rise l ∧ ∀ x ∈ l, K.lt a x = true ∧ x.size ≤ 32
  | [], _, _ => ⟨.nil, fun x h => by cases h⟩
  | y :: l, a, h => by
    simp only [up, Bool.and_eq_true, decide_eq_true_eq] at h
    obtain ⟨⟨h1, h2⟩, h3⟩ := h
    obtain ⟨r, q⟩ := up_all h3
    refine ⟨.cons (fun x hx => (q x hx).1) r, fun x hx => ?_⟩
    rcases List.mem_cons.1 hx with rfl | hx
    · exact ⟨h1, h2⟩
    · exact ⟨K.lt_trans h1 (q x hx).1, (q x hx).2⟩

theorem up_of : ∀ {l : List ByteArray} {a : ByteArray}, Rise l → (∀ x ∈ l, K.lt a x = true ∧ x.size ≤ 32) → up a l = true
  | [], _, _, _ => rfl
  | y :: l, a, r, h => by
    obtain ⟨r1, r2⟩ := List.pairwise_cons.1 r
    have hy := h y (List.mem_cons_self ..)
    simp only [up, Bool.and_eq_true, decide_eq_true_eq]
    exact ⟨hy, up_of r2 fun x hx => ⟨r1 x hx, (h x (List.mem_cons_of_mem _ hx)).2⟩⟩

theorem may_rise {l : List ByteArray} (h : may l = true) : Rise l := by
  simp only [may, Bool.and_eq_true] at h
  exact (up_all h.2).1
theorem may_len {l : List ByteArray} (h : may l = true) : l.length ≤ 200 := by
  simp only [may, Bool.and_eq_true, decide_eq_true_eq] at h
  exact h.1
theorem may_size {l : List ByteArray} (h : may l = true) : ∀ x ∈ l, 1 ≤ x.size ∧ x.size ≤ 32 := fun x hx => by
  simp only [may, Bool.and_eq_true] at h
  have := (up_all h.2).2 x hx
  rw [lt_none] at this
  simpa using this
theorem may_up {l : List ByteArray} (h : may l = true) : up ⟨#[]⟩ l = true := by
  simp only [may, Bool.and_eq_true] at h
  exact h.2
theorem may_of {l : List ByteArray} (h1 : l.length ≤ 200) (h2 : Rise l) (h3 : ∀ x ∈ l, 1 ≤ x.size ∧ x.size ≤ 32) : may l = true := by
  simp only [may, Bool.and_eq_true, decide_eq_true_eq]
  exact ⟨h1, up_of h2 fun x hx => by rw [lt_none]; simpa using h3 x hx⟩

theorem rise_lt {l : List ByteArray} (h : Rise l) {i k : Nat} {x y : ByteArray} (hik : i < k) (hx : l[i]? = some x) (hy : l[k]? = some y) : K.lt x y = true := by
  obtain ⟨hi, rfl⟩ := List.getElem?_eq_some_iff.1 hx
  obtain ⟨hk, rfl⟩ := List.getElem?_eq_some_iff.1 hy
  exact List.pairwise_iff_getElem.1 h i k hi hk hik

/-! ### Where a word stands -/

/-- How many are below t. -/
def bel (l : List ByteArray) (t : ByteArray) : Nat := l.countP fun x => K.lt x t

theorem bel_is {l : List ByteArray} {t : ByteArray} {i : Nat} (hi : i ≤ l.length) (h1 : ∀ k y, k < i → l[k]? = some y → K.lt y t = true) (h2 : ∀ k y, i ≤ k → l[k]? = some y → K.lt y t = false) : bel l t = i := by
  unfold bel
  rw [← List.take_append_drop i l, List.countP_append]
  have e1 : (l.take i).countP (fun x => K.lt x t) = (l.take i).length := by
    rw [List.countP_eq_length]
    intro x hx
    obtain ⟨k, hk, rfl⟩ := List.mem_iff_getElem.1 hx
    rw [List.length_take] at hk
    exact h1 k _ (by omega) (by rw [List.getElem?_eq_getElem (by omega)]; simp)
  have e2 : (l.drop i).countP (fun x => K.lt x t) = 0 := by
    rw [List.countP_eq_zero]
    intro x hx
    obtain ⟨k, hk, rfl⟩ := List.mem_iff_getElem.1 hx
    simp at hk
    rw [h2 (i + k) _ (by omega) (by simp [List.getElem?_eq_getElem (show i + k < l.length by omega)])]
    simp
  rw [e1, e2]
  simp
  omega

theorem bel_le (l : List ByteArray) (t : ByteArray) : bel l t ≤ l.length := List.countP_le_length

theorem bel_self {l : List ByteArray} (h : Rise l) {i : Nat} {t : ByteArray} (ht : l[i]? = some t) : bel l t = i := by
  refine bel_is (Nat.le_of_lt (List.getElem?_eq_some_iff.1 ht).1) (fun k y hk hy => rise_lt h hk hy ht) (fun k y hk hy => ?_)
  rcases Nat.lt_or_ge i k with h1 | h1
  · exact K.lt_asymm (rise_lt h h1 ht hy)
  · have e : k = i := by omega
    subst e
    rw [ht] at hy
    cases hy
    exact K.lt_irrefl _

theorem bel_step {l : List ByteArray} {t x : ByteArray} {k : Nat} (h : l[k]? = some x) : bel (l.take (k + 1)) t = bel (l.take k) t + if K.lt x t = true then 1 else 0 := by
  obtain ⟨hk, rfl⟩ := List.getElem?_eq_some_iff.1 h
  unfold bel
  rw [List.take_succ_eq_append_getElem hk, List.countP_append, List.countP_singleton]

/-- All ahead of that place are below t, and nothing from there on. -/
theorem bel_cut {l : List ByteArray} (h : Rise l) (t : ByteArray) : (∀ k y, k < bel l t → l[k]? = some y → K.lt y t = true) ∧ (∀ k y, bel l t ≤ k → l[k]? = some y → K.lt y t = false) := by
  have key : ∃ i, i ≤ l.length ∧ (∀ k y, k < i → l[k]? = some y → K.lt y t = true) ∧ (∀ k y, i ≤ k → l[k]? = some y → K.lt y t = false) := by
    induction l with
    | nil => exact ⟨0, Nat.le_refl _, fun k y hk => by omega, fun k y _ hy => by simp at hy⟩
    | cons z l ih =>
      obtain ⟨r1, r2⟩ := List.pairwise_cons.1 h
      cases hz : K.lt z t with
      | true =>
        obtain ⟨i, h0, h1, h2⟩ := ih r2
        refine ⟨i + 1, by simp; omega, fun k y hk hy => ?_, fun k y hk hy => ?_⟩
        · cases k with
          | zero => simp at hy; subst hy; exact hz
          | succ k => exact h1 k y (by omega) (by simpa using hy)
        · cases k with
          | zero => omega
          | succ k => exact h2 k y (by omega) (by simpa using hy)
      | false =>
        refine ⟨0, Nat.zero_le _, fun k y hk => by omega, fun k y _ hy => ?_⟩
        cases hb : K.lt y t with
        | false => rfl
        | true =>
          cases k with
          | zero => simp at hy; subst hy; rw [hz] at hb; cases hb
          | succ k =>
            have := K.lt_trans (r1 y (List.mem_of_getElem? (by simpa using hy))) hb
            rw [hz] at this
            cases this
  obtain ⟨i, h0, h1, h2⟩ := key
  rw [bel_is h0 h1 h2]
  exact ⟨h1, h2⟩

theorem mem_bel {l : List ByteArray} (h : Rise l) {t : ByteArray} : t ∈ l ↔ l[bel l t]? = some t := by
  refine ⟨fun ht => ?_, fun ht => List.mem_of_getElem? ht⟩
  obtain ⟨i, hi, rfl⟩ := List.mem_iff_getElem.1 ht
  have e : l[i]? = some l[i] := List.getElem?_eq_getElem hi
  rw [bel_self h e]
  exact e

/-- What Find and Below tell. -/
def findR (l : List ByteArray) (t : ByteArray) : Int := if may l = true ∧ l[bel l t]? = some t then bel l t else -1
def belR (l : List ByteArray) (t : ByteArray) : Int := if may l = true then bel l t else 0

/-! ### Lists of the same words -/

theorem rise_ext : ∀ {l m : List ByteArray}, Rise l → Rise m → (∀ x, x ∈ l ↔ x ∈ m) → l = m
  | [], [], _, _, _ => rfl
  | [], y :: m, _, _, h => by have := (h y).2 (List.mem_cons_self ..); cases this
  | x :: l, [], _, _, h => by have := (h x).1 (List.mem_cons_self ..); cases this
  | x :: l, y :: m, hl, hm, h => by
    obtain ⟨l1, l2⟩ := List.pairwise_cons.1 hl
    obtain ⟨m1, m2⟩ := List.pairwise_cons.1 hm
    have e : x = y := by
      rcases List.mem_cons.1 ((h x).1 (List.mem_cons_self ..)) with e | hx
      · exact e
      · rcases List.mem_cons.1 ((h y).2 (List.mem_cons_self ..)) with e | hy
        · exact e.symm
        · have a1 := m1 x hx
          have a2 := K.lt_asymm (l1 y hy)
          rw [a1] at a2
          cases a2
    subst e
    rw [rise_ext l2 m2 (fun z => ?_)]
    constructor
    · intro hz
      rcases List.mem_cons.1 ((h z).1 (List.mem_cons_of_mem _ hz)) with e | hz'
      · subst e; have := l1 z hz; rw [K.lt_irrefl] at this; cases this
      · exact hz'
    · intro hz
      rcases List.mem_cons.1 ((h z).2 (List.mem_cons_of_mem _ hz)) with e | hz'
      · subst e; have := m1 z hz; rw [K.lt_irrefl] at this; cases this
      · exact hz'

/-! ### One more word -/

/-- Words with one more, in its place, if it is not there. -/
def add (l : List ByteArray) (t : ByteArray) : List ByteArray :=
  if l[bel l t]? = some t then l else l.take (bel l t) ++ t :: l.drop (bel l t)

theorem mem_add {l : List ByteArray} {t x : ByteArray} : x ∈ add l t ↔ x = t ∨ x ∈ l := by
  unfold add
  split
  · rename_i h
    exact ⟨.inr, fun h1 => by rcases h1 with rfl | h1; exact List.mem_of_getElem? h; exact h1⟩
  · have e : x ∈ l ↔ x ∈ l.take (bel l t) ∨ x ∈ l.drop (bel l t) := by
      rw [← List.mem_append, List.take_append_drop]
    rw [List.mem_append, List.mem_cons, e]
    constructor
    · rintro (h | h | h)
      · exact .inr (.inl h)
      · exact .inl h
      · exact .inr (.inr h)
    · rintro (h | h | h)
      · exact .inr (.inl h)
      · exact .inl h
      · exact .inr (.inr h)

theorem add_rise {l : List ByteArray} {t : ByteArray} (h : Rise l) : Rise (add l t) := by
  unfold add
  split
  · exact h
  · rename_i hn
    obtain ⟨c1, c2⟩ := bel_cut h t
    have hd : ∀ y ∈ l.drop (bel l t), K.lt t y = true := fun y hy => by
      obtain ⟨k, hk, rfl⟩ := List.mem_iff_getElem.1 hy
      simp at hk
      have e : l[bel l t + k]? = some (l.drop (bel l t))[k] := by simp [List.getElem?_eq_getElem (show bel l t + k < l.length by omega)]
      have f := c2 _ _ (by omega) e
      cases hb : K.lt t (l.drop (bel l t))[k] with
      | true => rfl
      | false =>
        have e2 := K.lt_tri f hb
        have e3 : l[bel l t]? = some t := by rw [← mem_bel h, ← e2]; exact List.mem_of_getElem? e
        exact absurd e3 hn
    refine List.pairwise_append.2 ⟨h.sublist (List.take_sublist ..), List.pairwise_cons.2 ⟨hd, h.sublist (List.drop_sublist ..)⟩, fun a ha b hb => ?_⟩
    have ha' : K.lt a t = true := by
      obtain ⟨k, hk, rfl⟩ := List.mem_iff_getElem.1 ha
      rw [List.length_take] at hk
      exact c1 k _ (by omega) (by rw [List.getElem?_eq_getElem (by omega)]; simp)
    rcases List.mem_cons.1 hb with rfl | hb
    · exact ha'
    · exact K.lt_trans ha' (hd b hb)

theorem add_at {l : List ByteArray} {t : ByteArray} (h : Rise l) {k : Nat} (hk : k ≤ l.length) (ha : ∀ j g, j < k → l[j]? = some g → K.lt g t = true) (hb : ∀ g, l[k]? = some g → K.lt g t = false) : bel l t = k := by
  refine bel_is hk ha fun j y hj hy => ?_
  rcases Nat.lt_or_ge k j with h1 | h1
  · cases hz : K.lt y t with
    | false => rfl
    | true =>
      have hkl : k < l.length := by have := (List.getElem?_eq_some_iff.1 hy).1; omega
      have e := List.getElem?_eq_getElem hkl
      have := K.lt_trans (rise_lt h h1 e hy) hz
      rw [hb _ e] at this
      cases this
  · have e : j = k := by omega
    subst e
    exact hb y hy

/-! ### The words of many lists -/

def adds (o l : List ByteArray) : List ByteArray := l.foldl add o
def un (ls : List (List ByteArray)) : List ByteArray := ls.foldl adds []

theorem adds_rise : ∀ {l o : List ByteArray}, Rise o → Rise (adds o l)
  | [], _, h => h
  | x :: l, _, h => adds_rise (l := l) (add_rise (t := x) h)
theorem mem_adds : ∀ {l o : List ByteArray} {x : ByteArray}, x ∈ adds o l ↔ x ∈ o ∨ x ∈ l
  | [], o, x => by simp [adds]
  | y :: l, o, x => by
    have := mem_adds (l := l) (o := add o y) (x := x)
    rw [show adds o (y :: l) = adds (add o y) l from rfl, this, mem_add, List.mem_cons]
    constructor
    · rintro ((h | h) | h)
      · exact .inr (.inl h)
      · exact .inl h
      · exact .inr (.inr h)
    · rintro (h | h | h)
      · exact .inl (.inr h)
      · exact .inl (.inl h)
      · exact .inr h
theorem uns_rise : ∀ {ls : List (List ByteArray)} {o : List ByteArray}, Rise o → Rise (ls.foldl adds o)
  | [], _, h => h
  | l :: ls, _, h => uns_rise (ls := ls) (adds_rise (l := l) h)
theorem mem_uns : ∀ {ls : List (List ByteArray)} {o : List ByteArray} {x : ByteArray}, x ∈ ls.foldl adds o ↔ x ∈ o ∨ ∃ l ∈ ls, x ∈ l
  | [], o, x => by simp
  | l :: ls, o, x => by
    have := mem_uns (ls := ls) (o := adds o l) (x := x)
    rw [List.foldl_cons, this, mem_adds]
    simp only [List.mem_cons, exists_eq_or_imp, or_assoc]
theorem un_rise (ls : List (List ByteArray)) : Rise (un ls) := uns_rise .nil
theorem mem_un {ls : List (List ByteArray)} {x : ByteArray} : x ∈ un ls ↔ ∃ l ∈ ls, x ∈ l := by
  unfold un
  rw [mem_uns]
  simp

theorem add_len (l : List ByteArray) (t : ByteArray) : (add l t).length ≤ l.length + 1 := by
  unfold add
  split
  · omega
  · have := bel_le l t
    simp
    omega
theorem adds_len : ∀ (l o : List ByteArray), (adds o l).length ≤ o.length + l.length
  | [], o => Nat.le_refl _
  | x :: l, o => by
    have h1 := adds_len l (add o x)
    have h2 := add_len o x
    rw [show adds o (x :: l) = adds (add o x) l from rfl, List.length_cons]
    omega

/-- The least word that any list begins with. -/
def lstep (o : Option ByteArray) (l : List ByteArray) : Option ByteArray :=
  match l, o with
  | [], o => o
  | x :: _, none => some x
  | x :: _, some w => if K.lt x w = true then some x else some w
def least (ls : List (List ByteArray)) : Option ByteArray := ls.foldl lstep none

/-- Behind the word in each list that begins with it. -/
def pass1 (w : ByteArray) : List ByteArray → List ByteArray
  | [] => []
  | x :: l => if x = w then l else x :: l
def pass (w : ByteArray) (ls : List (List ByteArray)) : List (List ByteArray) := ls.map (pass1 w)

theorem least_step {ls : List (List ByteArray)} {k : Nat} {l : List ByteArray} (h : ls[k]? = some l) : least (ls.take (k + 1)) = lstep (least (ls.take k)) l := by
  obtain ⟨hk, rfl⟩ := List.getElem?_eq_some_iff.1 h
  unfold least
  rw [List.take_succ_eq_append_getElem hk, List.foldl_append]
  rfl

theorem least_snoc (ls : List (List ByteArray)) (l : List ByteArray) : least (ls ++ [l]) = lstep (least ls) l := by
  unfold least
  rw [List.foldl_append]
  rfl

theorem least_is (ls : List (List ByteArray)) : (least ls = none → ∀ l ∈ ls, l = []) ∧ ∀ w, least ls = some w → (∃ l ∈ ls, l.head? = some w) ∧ ∀ l ∈ ls, ∀ y, l.head? = some y → K.lt y w = false := by
  suffices H : ∀ n (ls : List (List ByteArray)), ls.length = n → (least ls = none → ∀ l ∈ ls, l = []) ∧ ∀ w, least ls = some w → (∃ l ∈ ls, l.head? = some w) ∧ ∀ l ∈ ls, ∀ y, l.head? = some y → K.lt y w = false from H _ ls rfl
  intro n
  induction n with
  | zero =>
    intro ls h
    have : ls = [] := List.eq_nil_of_length_eq_zero h
    subst this
    exact ⟨fun _ l hl => (by cases hl), fun w hw => (by simp [least] at hw)⟩
  | succ n ih =>
    intro ls h
    rcases List.eq_nil_or_concat ls with rfl | ⟨ms, l, rfl⟩
    · simp at h
    rw [List.concat_eq_append] at *
    obtain ⟨i1, i2⟩ := ih ms (by simpa using h)
    rw [least_snoc]
    cases l with
    | nil =>
      refine ⟨fun e m hm => ?_, fun w e => ?_⟩
      · rcases List.mem_append.1 hm with hm | hm
        · exact i1 e m hm
        · simpa using hm
      · obtain ⟨⟨m, hm, hh⟩, i4⟩ := i2 w e
        refine ⟨⟨m, List.mem_append_left _ hm, hh⟩, fun m hm y hy => ?_⟩
        rcases List.mem_append.1 hm with hm | hm
        · exact i4 m hm y hy
        · simp at hm
          subst hm
          simp at hy
    | cons x l =>
      cases hm0 : least ms with
      | none =>
        refine ⟨fun e => by simp [lstep] at e, fun w e => ?_⟩
        simp only [lstep, Option.some.injEq] at e
        subst e
        refine ⟨⟨x :: l, by simp, rfl⟩, fun m hm y hy => ?_⟩
        rcases List.mem_append.1 hm with hm | hm
        · rw [i1 hm0 m hm] at hy
          simp at hy
        · simp at hm
          subst hm
          simp at hy
          subst hy
          exact K.lt_irrefl _
      | some u =>
        obtain ⟨⟨m, hm, hh⟩, i4⟩ := i2 u hm0
        simp only [lstep]
        cases hxu : K.lt x u with
        | true =>
          refine ⟨fun e => by simp at e, fun w e => ?_⟩
          simp only [if_true, Option.some.injEq] at e
          subst e
          refine ⟨⟨x :: l, by simp, rfl⟩, fun m hm y hy => ?_⟩
          rcases List.mem_append.1 hm with hm | hm
          · cases hb : K.lt y x with
            | false => rfl
            | true => have := K.lt_trans hb hxu; rw [i4 m hm y hy] at this; cases this
          · simp at hm
            subst hm
            simp at hy
            subst hy
            exact K.lt_irrefl _
        | false =>
          refine ⟨fun e => by simp at e, fun w e => ?_⟩
          simp only [Bool.false_eq_true, if_false, Option.some.injEq] at e
          subst e
          refine ⟨⟨m, List.mem_append_left _ hm, hh⟩, fun m' hm' y hy => ?_⟩
          rcases List.mem_append.1 hm' with hm' | hm'
          · exact i4 m' hm' y hy
          · simp at hm'
            subst hm'
            simp at hy
            subst hy
            exact hxu

theorem un_end {ls : List (List ByteArray)} (h : least ls = none) : un ls = [] := by
  refine List.eq_nil_iff_forall_not_mem.2 fun x hx => ?_
  obtain ⟨l, hl, hx⟩ := mem_un.1 hx
  rw [(least_is ls).1 h l hl] at hx
  cases hx

theorem pass1_rise {w : ByteArray} {l : List ByteArray} (h : Rise l) : Rise (pass1 w l) := by
  cases l with
  | nil => exact h
  | cons x l =>
    simp only [pass1]
    split
    · exact (List.pairwise_cons.1 h).2
    · exact h

theorem pass_rise {w : ByteArray} {ls : List (List ByteArray)} (h : ∀ l ∈ ls, Rise l) : ∀ l ∈ pass w ls, Rise l := fun l hl => by
  obtain ⟨m, hm, rfl⟩ := List.mem_map.1 hl
  exact pass1_rise (h m hm)

theorem un_next {ls : List (List ByteArray)} {w : ByteArray} (hr : ∀ l ∈ ls, Rise l) (h : least ls = some w) : un ls = w :: un (pass w ls) := by
  obtain ⟨⟨l0, h0, hh0⟩, hmin⟩ := (least_is ls).2 w h
  have hge : ∀ l ∈ ls, ∀ x ∈ l, x = w ∨ K.lt w x = true := fun l hl x hx => by
    cases l with
    | nil => cases hx
    | cons y l =>
      have hy := hmin _ hl y rfl
      have hwy : y = w ∨ K.lt w y = true := by
        cases hb : K.lt w y with
        | true => exact .inr rfl
        | false => exact .inl (K.lt_tri hy hb)
      rcases List.mem_cons.1 hx with rfl | hx
      · exact hwy
      · have := (List.pairwise_cons.1 (hr _ hl)).1 x hx
        rcases hwy with rfl | hwy
        · exact .inr this
        · exact .inr (K.lt_trans hwy this)
  have hpm : ∀ x, (∃ m ∈ pass w ls, x ∈ m) ↔ (∃ l ∈ ls, x ∈ l) ∧ x ≠ w := fun x => by
    constructor
    · rintro ⟨m, hm, hx⟩
      obtain ⟨l, hl, rfl⟩ := List.mem_map.1 hm
      cases l with
      | nil => cases hx
      | cons y l =>
        simp only [pass1] at hx
        split at hx
        · rename_i e
          refine ⟨⟨_, hl, List.mem_cons_of_mem _ hx⟩, ?_⟩
          rintro rfl
          have := (List.pairwise_cons.1 (hr _ hl)).1 x hx
          rw [e, K.lt_irrefl] at this
          cases this
        · rename_i e
          refine ⟨⟨_, hl, hx⟩, ?_⟩
          rintro rfl
          rcases List.mem_cons.1 hx with h1 | h1
          · exact e h1.symm
          · have h2 := (List.pairwise_cons.1 (hr _ hl)).1 x h1
            rcases hge _ hl y (List.mem_cons_self ..) with h3 | h3
            · exact e h3
            · rw [K.lt_asymm h3] at h2
              cases h2
    · rintro ⟨⟨l, hl, hx⟩, hne⟩
      refine ⟨pass1 w l, List.mem_map.2 ⟨l, hl, rfl⟩, ?_⟩
      cases l with
      | nil => cases hx
      | cons y l =>
        simp only [pass1]
        split
        · rename_i e
          rcases List.mem_cons.1 hx with h1 | h1
          · exact absurd (h1.trans e) hne
          · exact h1
        · exact hx
  refine rise_ext (un_rise _) (List.pairwise_cons.2 ⟨fun x hx => ?_, un_rise _⟩) fun x => ?_
  · obtain ⟨⟨l, hl, hx⟩, hne⟩ := (hpm x).1 (mem_un.1 hx)
    rcases hge l hl x hx with h1 | h1
    · exact absurd h1 hne
    · exact h1
  · rw [List.mem_cons, mem_un, mem_un, hpm]
    constructor
    · intro hx
      by_cases e : x = w
      · exact .inl e
      · exact .inr ⟨hx, e⟩
    · rintro (rfl | hx)
      · exact ⟨l0, h0, List.mem_of_mem_head? hh0⟩
      · exact hx.1

/-- What Or tells. -/
def orR (ls : List (List ByteArray)) : List ByteArray := if ls.all may = true ∧ (un ls).length ≤ 200 then un ls else []
end D
end Go.Proofs.Ytonhehhmnobciaa
