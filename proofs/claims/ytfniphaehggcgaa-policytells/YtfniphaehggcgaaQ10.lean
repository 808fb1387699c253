/-
  Texts put together: Ord7, Plain7, Plain8, KBase8, PlainR10, PlainC10.
-/
import Derived.Test.YtfniphaehggcgaaQ07
import Derived.Test.YtfniphaehggcgaaQ05
import Derived.Lib.Bytes
import Derived.Deep.QuietTactic
import Derived.BigQuiet
import Derived.Test.YtfniphaehggcgaaRows
import Derived.Test.YtfniphaehggcgaaQ08
import Derived.Deep.AppendLies
/-
  Texts in their order, byte by byte: plain facts; and the contract of the document's own order (Below).
-/
namespace Go.Proofs.Ytfniphaehggcgaa
set_option maxRecDepth 100000
open Go.RowKit

/-- Is a text below another one, byte by byte? (The model's own order of texts.) -/
def K.lt (x y : ByteArray) : Bool := Op.bytesLess x.toList y.toList
def K.ls (x y : List UInt8) : Bool := Op.bytesLess x y

theorem K.lt_ls (x y : ByteArray) : K.lt x y = K.ls x.data.toList y.data.toList := by unfold K.lt K.ls; rw [Lib.toList_data, Lib.toList_data]

theorem K.ls_irrefl : ∀ x : List UInt8, K.ls x x = false
  | [] => rfl
  | a :: x => by
    have := K.ls_irrefl x
    unfold K.ls at *
    simp [Op.bytesLess, this]

theorem K.ls_nil : ∀ x : List UInt8, K.ls x [] = false
  | [] => rfl
  | _ :: _ => rfl

theorem K.ls_cons (a b : UInt8) (x y : List UInt8) : K.ls (a :: x) (b :: y) = (decide (a < b) || (a == b && K.ls x y)) := rfl

theorem K.ls_trans : ∀ x y z : List UInt8, K.ls x y = true → K.ls y z = true → K.ls x z = true
  | _, [], _, h, _ => by rw [K.ls_nil] at h; cases h
  | _, _ :: _, [], _, h => by rw [K.ls_nil] at h; cases h
  | [], _ :: _, _ :: _, _, _ => rfl
  | a :: x, b :: y, c :: z, h, k => by
    rw [K.ls_cons] at h k ⊢
    simp only [Bool.or_eq_true, Bool.and_eq_true, decide_eq_true_eq, beq_iff_eq] at h k ⊢
    rcases h with h | ⟨rfl, h⟩
    · rcases k with k | ⟨rfl, k⟩
      · exact .inl (UInt8.lt_trans h k)
      · exact .inl h
    · rcases k with k | ⟨rfl, k⟩
      · exact .inl k
      · exact .inr ⟨rfl, K.ls_trans x y z h k⟩

theorem K.ls_tri : ∀ x y : List UInt8, K.ls x y = false → K.ls y x = false → x = y
  | [], [], _, _ => rfl
  | [], _ :: _, h, _ => by simp [K.ls, Op.bytesLess] at h
  | _ :: _, [], _, h => by simp [K.ls, Op.bytesLess] at h
  | a :: x, b :: y, h, k => by
    rw [K.ls_cons] at h k
    simp only [Bool.or_eq_false_iff, Bool.and_eq_false_iff, decide_eq_false_iff_not, beq_eq_false_iff_ne] at h k
    have e : a = b := by
      have h1 := h.1
      have k1 := k.1
      rw [UInt8.lt_iff_toNat_lt] at h1 k1
      exact UInt8.toNat_inj.1 (by omega)
    subst e
    rw [K.ls_tri x y (by simpa using h.2) (by simpa using k.2)]

theorem K.ls_pre (p x y : List UInt8) : K.ls (p ++ x) (p ++ y) = K.ls x y := by
  induction p with
  | nil => rfl
  | cons a p ih => simp [List.cons_append, K.ls_cons, ih]

theorem K.lt_irrefl (x : ByteArray) : K.lt x x = false := by rw [K.lt_ls]; exact K.ls_irrefl _
theorem K.lt_trans {x y z : ByteArray} (h : K.lt x y = true) (k : K.lt y z = true) : K.lt x z = true := by
  rw [K.lt_ls] at *; exact K.ls_trans _ _ _ h k
theorem K.lt_tri {x y : ByteArray} (h : K.lt x y = false) (k : K.lt y x = false) : x = y := by
  rw [K.lt_ls] at h k
  have := K.ls_tri _ _ h k
  exact ByteArray.ext (Array.ext' this)
theorem K.lt_asymm {x y : ByteArray} (h : K.lt x y = true) : K.lt y x = false := by
  cases hb : K.lt y x with
  | false => rfl
  | true => have := K.lt_trans h hb; rw [K.lt_irrefl] at this; cases this
theorem K.lt_ne {x y : ByteArray} (h : K.lt x y = true) : x ≠ y := by
  rintro rfl
  rw [K.lt_irrefl] at h
  cases h

/-- Equality of texts, as the model asks it. -/
theorem K.eq_to {x y : ByteArray} : (x.toList == y.toList) = decide (x = y) := by
  rw [Lib.toList_data, Lib.toList_data, Bool.eq_iff_iff]
  simp only [beq_iff_eq, decide_eq_true_eq]
  exact ⟨fun h => ByteArray.ext (Array.ext' h), fun h => by rw [h]⟩

theorem K.lt_diff (a b : ByteArray) (k : Nat) (ha : k < a.size) (hb : k < b.size) (he : a.data.toList.take k = b.data.toList.take k) (hn : a[k] ≠ b[k]) : K.lt a b = decide (a[k] < b[k]) := by
  rw [K.lt_ls]
  have h1 : a.data.toList = a.data.toList.take k ++ a[k] :: a.data.toList.drop (k + 1) := by
    have : a[k] = a.data.toList[k]'(by simpa using ha) := rfl
    rw [this, ← List.drop_eq_getElem_cons (by simpa using ha), List.take_append_drop]
  have h2 : b.data.toList = a.data.toList.take k ++ b[k] :: b.data.toList.drop (k + 1) := by
    have : b[k] = b.data.toList[k]'(by simpa using hb) := rfl
    rw [he, this, ← List.drop_eq_getElem_cons (by simpa using hb), List.take_append_drop]
  rw [h1, h2, K.ls_pre, K.ls_cons]
  simp [hn]

theorem K.lt_end (a b : ByteArray) (k : Nat) (he : a.data.toList.take k = b.data.toList.take k) (h : a.size ≤ k ∨ b.size ≤ k) (ha : k ≤ a.size) (hb : k ≤ b.size) : K.lt a b = decide (a.size < b.size) := by
  rw [K.lt_ls]
  have sa : a.data.toList.length = a.size := by simp
  have sb : b.data.toList.length = b.size := by simp
  by_cases hk : a.size ≤ k
  · rw [List.take_of_length_le (by omega)] at he
    by_cases hb2 : b.size ≤ k
    · rw [List.take_of_length_le (by omega)] at he
      rw [he, K.ls_irrefl]
      have : a.size = b.size := by omega
      simp [this]
    · have h2 : b.data.toList = b.data.toList.take k ++ b.data.toList.drop k := (List.take_append_drop ..).symm
      obtain ⟨c, r, hr⟩ : ∃ c r, b.data.toList.drop k = c :: r := ⟨_, _, List.drop_eq_getElem_cons (by omega)⟩
      rw [h2, ← he, hr]
      have := K.ls_pre a.data.toList [] (c :: r)
      rw [List.append_nil] at this
      rw [this]
      have : a.size < b.size := by omega
      simp [this, K.ls, Op.bytesLess]
  · have hb2 : b.size ≤ k := by omega
    have h2 : a.data.toList = a.data.toList.take k ++ a.data.toList.drop k := (List.take_append_drop ..).symm
    rw [List.take_of_length_le (l := b.data.toList) (by omega)] at he
    rw [h2, he]
    have := K.ls_pre b.data.toList (a.data.toList.drop k) []
    rw [List.append_nil] at this
    rw [this, K.ls_nil]
    have : ¬ a.size < b.size := by omega
    simp [this]

/-- '<=' on texts, as the model asks it. -/
theorem K.le_not (f g : ByteArray) : (Op.bytesLess f.toList g.toList || f.toList == g.toList) = !K.lt g f := by
  show (K.lt f g || f.toList == g.toList) = _
  rw [K.eq_to]
  cases h : K.lt g f with
  | true => simp [K.lt_asymm h, Ne.symm (K.lt_ne h)]
  | false =>
    cases h2 : K.lt f g with
    | true => simp
    | false => simp [K.lt_tri h2 h]

theorem ret_bool {a b : Bool} (h : a = b) : Ending.returned (.bool a) = .returned (.bool b) := by rw [h]

theorem byte_ne {a b : UInt8} (h : ((a.toNat : Int) != (b.toNat : Int)) = true) : a ≠ b := by
  rintro rfl
  simp at h
theorem byte_eq {a b : UInt8} (h : ((a.toNat : Int) != (b.toNat : Int)) = false) : a = b := by
  rw [bne_eq_false_iff_eq] at h
  exact UInt8.toNat_inj.1 (by omega)
theorem take_snoc_b (s : ByteArray) (k : Nat) (h : k < s.size) : s.data.toList.take (k + 1) = s.data.toList.take k ++ [s[k]] := by
  rw [List.take_succ_eq_append_getElem (by simpa using h)]; rfl

end Go.Proofs.Ytfniphaehggcgaa

/-
  The plain mathematics of layer 7: words in their order, where a word stands, the words of many lists. No program is named here.
-/
namespace Go.Proofs.Ytfniphaehggcgaa
set_option maxRecDepth 100000
namespace D

/-- Is each above the one ahead (the first one above a), and of at most 32 bytes? -/
def up : ByteArray → List ByteArray → Bool
  | _, [] => true
  | a, x :: l => K.lt a x && decide (x.size ≤ 32) && up x l

/-- Words may be. -/
def may (l : List ByteArray) : Bool := decide (l.length ≤ 200) && up ⟨#[]⟩ l

/-- Each is above all ahead. -/
def Rise (l : List ByteArray) : Prop := l.Pairwise fun x y => K.lt x y = true

theorem data_nil {x : ByteArray} (h : x.size = 0) : x = ⟨#[]⟩ := by
  have e : x.data.toList = [] := List.eq_nil_of_length_eq_zero (by simpa using h)
  exact ByteArray.ext (Array.ext' e)

theorem lt_none (x : ByteArray) : K.lt ⟨#[]⟩ x = decide (1 ≤ x.size) := by
  rw [K.lt_end ⟨#[]⟩ x 0 rfl (.inl (Nat.le_refl _)) (Nat.zero_le _) (Nat.zero_le _)]
  rfl

theorem up_all : ∀ {l : List ByteArray} {a : ByteArray}, up a l = true → Rise l ∧ ∀ x ∈ l, K.lt a x = true ∧ x.size ≤ 32
  | [], _, _ => ⟨.nil, fun x h => by cases h⟩
  | y :: l, a, h => by
    simp only [up, Bool.and_eq_true, decide_eq_true_eq] at h
    obtain ⟨⟨h1, h2⟩, h3⟩ := h
    obtain ⟨r, q⟩ := up_all h3
    refine ⟨.cons (fun x hx => (q x hx).1) r, fun x hx => ?_⟩
    rcases List.mem_cons.1 hx with rfl | hx
    · exact ⟨h1, h2⟩
    · exact ⟨K.lt_trans h1 (q x hx).1, (q x hx).2⟩

theorem up_of : ∀ {l : List ByteArray} {a : ByteArray}, Rise l → (∀ x ∈ l, K.lt a x = true ∧ x.size ≤ 32) → up a l = true
  | [], _, _, _ => rfl
  | y :: l, a, r, h => by
    obtain ⟨r1, r2⟩ := List.pairwise_cons.1 r
    have hy := h y (List.mem_cons_self ..)
    simp only [up, Bool.and_eq_true, decide_eq_true_eq]
    exact ⟨hy, up_of r2 fun x hx => ⟨r1 x hx, (h x (List.mem_cons_of_mem _ hx)).2⟩⟩

theorem may_rise {l : List ByteArray} (h : may l = true) : Rise l := by
  simp only [may, Bool.and_eq_true] at h
  exact (up_all h.2).1
theorem may_len {l : List ByteArray} (h : may l = true) : l.length ≤ 200 := by
  simp only [may, Bool.and_eq_true, decide_eq_true_eq] at h
  exact h.1
theorem may_size {l : List ByteArray} (h : may l = true) : ∀ x ∈ l, 1 ≤ x.size ∧ x.size ≤ 32 := fun x hx => by
  simp only [may, Bool.and_eq_true] at h
  have := (up_all h.2).2 x hx
  rw [lt_none] at this
  simpa using this
theorem may_up {l : List ByteArray} (h : may l = true) : up ⟨#[]⟩ l = true := by
  simp only [may, Bool.and_eq_true] at h
  exact h.2
theorem may_of {l : List ByteArray} (h1 : l.length ≤ 200) (h2 : Rise l) (h3 : ∀ x ∈ l, 1 ≤ x.size ∧ x.size ≤ 32) : may l = true := by
  simp only [may, Bool.and_eq_true, decide_eq_true_eq]
  exact ⟨h1, up_of h2 fun x hx => by rw [lt_none]; simpa using h3 x hx⟩

theorem rise_lt {l : List ByteArray} (h : Rise l) {i k : Nat} {x y : ByteArray} (hik : i < k) (hx : l[i]? = some x) (hy : l[k]? = some y) : K.lt x y = true := by
  obtain ⟨hi, rfl⟩ := List.getElem?_eq_some_iff.1 hx
  obtain ⟨hk, rfl⟩ := List.getElem?_eq_some_iff.1 hy
  exact List.pairwise_iff_getElem.1 h i k hi hk hik

/-! ### Where a word stands -/

/-- How many are below t. -/
def bel (l : List ByteArray) (t : ByteArray) : Nat := l.countP fun x => K.lt x t

theorem bel_is {l : List ByteArray} {t : ByteArray} {i : Nat} (hi : i ≤ l.length) (h1 : ∀ k y, k < i → l[k]? = some y → K.lt y t = true) (h2 : ∀ k y, i ≤ k → l[k]? = some y → K.lt y t = false) : bel l t = i := by
  unfold bel
  rw [← List.take_append_drop i l, List.countP_append]
  have e1 : (l.take i).countP (fun x => K.lt x t) = (l.take i).length := by
    rw [List.countP_eq_length]
    intro x hx
    obtain ⟨k, hk, rfl⟩ := List.mem_iff_getElem.1 hx
    rw [List.length_take] at hk
    exact h1 k _ (by omega) (by rw [List.getElem?_eq_getElem (by omega)]; simp)
  have e2 : (l.drop i).countP (fun x => K.lt x t) = 0 := by
    rw [List.countP_eq_zero]
    intro x hx
    obtain ⟨k, hk, rfl⟩ := List.mem_iff_getElem.1 hx
    simp at hk
    rw [h2 (i + k) _ (by omega) (by simp [List.getElem?_eq_getElem (show i + k < l.length by omega)])]
    simp
  rw [e1, e2]
  simp
  omega

theorem bel_le (l : List ByteArray) (t : ByteArray) : bel l t ≤ l.length := List.countP_le_length

theorem bel_self {l : List ByteArray} (h : Rise l) {i : Nat} {t : ByteArray} (ht : l[i]? = some t) : bel l t = i := by
  refine bel_is (Nat.le_of_lt (List.getElem?_eq_some_iff.1 ht).1) (fun k y hk hy => rise_lt h hk hy ht) (fun k y hk hy => ?_)
  rcases Nat.lt_or_ge i k with h1 | h1
  · exact K.lt_asymm (rise_lt h h1 ht hy)
  · have e : k = i := by omega
    subst e
    rw [ht] at hy
    cases hy
    exact K.lt_irrefl _

theorem bel_step {l : List ByteArray} {t x : ByteArray} {k : Nat} (h : l[k]? = some x) : bel (l.take (k + 1)) t = bel (l.take k) t + if K.lt x t = true then 1 else 0 := by
  obtain ⟨hk, rfl⟩ := List.getElem?_eq_some_iff.1 h
  unfold bel
  rw [List.take_succ_eq_append_getElem hk, List.countP_append, List.countP_singleton]

/-- All ahead of that place are below t, and nothing from there on. -/
theorem bel_cut {l : List ByteArray} (h : Rise l) (t : ByteArray) : (∀ k y, k < bel l t → l[k]? = some y → K.lt y t = true) ∧ (∀ k y, bel l t ≤ k → l[k]? = some y → K.lt y t = false) := by
  have key : ∃ i, i ≤ l.length ∧ (∀ k y, k < i → l[k]? = some y → K.lt y t = true) ∧ (∀ k y, i ≤ k → l[k]? = some y → K.lt y t = false) := by
    induction l with
    | nil => exact ⟨0, Nat.le_refl _, fun k y hk => by omega, fun k y _ hy => by simp at hy⟩
    | cons z l ih =>
      obtain ⟨r1, r2⟩ := List.pairwise_cons.1 h
      cases hz : K.lt z t with
      | true =>
        obtain ⟨i, h0, h1, h2⟩ := ih r2
        refine ⟨i + 1, by simp; omega, fun k y hk hy => ?_, fun k y hk hy => ?_⟩
        · cases k with
          | zero => simp at hy; subst hy; exact hz
          | succ k => exact h1 k y (by omega) (by simpa using hy)
        · cases k with
          | zero => omega
          | succ k => exact h2 k y (by omega) (by simpa using hy)
      | false =>
        refine ⟨0, Nat.zero_le _, fun k y hk => by omega, fun k y _ hy => ?_⟩
        cases hb : K.lt y t with
        | false => rfl
        | true =>
          cases k with
          | zero => simp at hy; subst hy; rw [hz] at hb; cases hb
          | succ k =>
            have := K.lt_trans (r1 y (List.mem_of_getElem? (by simpa using hy))) hb
            rw [hz] at this
            cases this
  obtain ⟨i, h0, h1, h2⟩ := key
  rw [bel_is h0 h1 h2]
  exact ⟨h1, h2⟩

theorem mem_bel {l : List ByteArray} (h : Rise l) {t : ByteArray} : t ∈ l ↔ l[bel l t]? = some t := by
  refine ⟨fun ht => ?_, fun ht => List.mem_of_getElem? ht⟩
  obtain ⟨i, hi, rfl⟩ := List.mem_iff_getElem.1 ht
  have e : l[i]? = some l[i] := List.getElem?_eq_getElem hi
  rw [bel_self h e]
  exact e

/-- What Find and Below tell. -/
def findR (l : List ByteArray) (t : ByteArray) : Int := if may l = true ∧ l[bel l t]? = some t then bel l t else -1
def belR (l : List ByteArray) (t : ByteArray) : Int := if may l = true then bel l t else 0

/-! ### Lists of the same words -/

theorem rise_ext : ∀ {l m : List ByteArray}, Rise l → Rise m → (∀ x, x ∈ l ↔ x ∈ m) → l = m
  | [], [], _, _, _ => rfl
  | [], y :: m, _, _, h => by have := (h y).2 (List.mem_cons_self ..); cases this
  | x :: l, [], _, _, h => by have := (h x).1 (List.mem_cons_self ..); cases this
  | x :: l, y :: m, hl, hm, h => by
    obtain ⟨l1, l2⟩ := List.pairwise_cons.1 hl
    obtain ⟨m1, m2⟩ := List.pairwise_cons.1 hm
    have e : x = y := by
      rcases List.mem_cons.1 ((h x).1 (List.mem_cons_self ..)) with e | hx
      · exact e
      · rcases List.mem_cons.1 ((h y).2 (List.mem_cons_self ..)) with e | hy
        · exact e.symm
        · have a1 := m1 x hx
          have a2 := K.lt_asymm (l1 y hy)
          rw [a1] at a2
          cases a2
    subst e
    rw [rise_ext l2 m2 (fun z => ?_)]
    constructor
    · intro hz
      rcases List.mem_cons.1 ((h z).1 (List.mem_cons_of_mem _ hz)) with e | hz'
      · subst e; have := l1 z hz; rw [K.lt_irrefl] at this; cases this
      · exact hz'
    · intro hz
      rcases List.mem_cons.1 ((h z).2 (List.mem_cons_of_mem _ hz)) with e | hz'
      · subst e; have := m1 z hz; rw [K.lt_irrefl] at this; cases this
      · exact hz'

/-! ### One more word -/

/-- Words with one more, in its place, if it is not there. -/
def add (l : List ByteArray) (t : ByteArray) : List ByteArray :=
  if l[bel l t]? = some t then l else l.take (bel l t) ++ t :: l.drop (bel l t)

theorem mem_add {l : List ByteArray} {t x : ByteArray} : x ∈ add l t ↔ x = t ∨ x ∈ l := by
  unfold add
  split
  · rename_i h
    exact ⟨.inr, fun h1 => by rcases h1 with rfl | h1; exact List.mem_of_getElem? h; exact h1⟩
  · have e : x ∈ l ↔ x ∈ l.take (bel l t) ∨ x ∈ l.drop (bel l t) := by
      rw [← List.mem_append, List.take_append_drop]
    rw [List.mem_append, List.mem_cons, e]
    constructor
    · rintro (h | h | h)
      · exact .inr (.inl h)
      · exact .inl h
      · exact .inr (.inr h)
    · rintro (h | h | h)
      · exact .inr (.inl h)
      · exact .inl h
      · exact .inr (.inr h)

theorem add_rise {l : List ByteArray} {t : ByteArray} (h : Rise l) : Rise (add l t) := by
  unfold add
  split
  · exact h
  · rename_i hn
    obtain ⟨c1, c2⟩ := bel_cut h t
    have hd : ∀ y ∈ l.drop (bel l t), K.lt t y = true := fun y hy => by
      obtain ⟨k, hk, rfl⟩ := List.mem_iff_getElem.1 hy
      simp at hk
      have e : l[bel l t + k]? = some (l.drop (bel l t))[k] := by simp [List.getElem?_eq_getElem (show bel l t + k < l.length by omega)]
      have f := c2 _ _ (by omega) e
      cases hb : K.lt t (l.drop (bel l t))[k] with
      | true => rfl
      | false =>
        have e2 := K.lt_tri f hb
        have e3 : l[bel l t]? = some t := by rw [← mem_bel h, ← e2]; exact List.mem_of_getElem? e
        exact absurd e3 hn
    refine List.pairwise_append.2 ⟨h.sublist (List.take_sublist ..), List.pairwise_cons.2 ⟨hd, h.sublist (List.drop_sublist ..)⟩, fun a ha b hb => ?_⟩
    have ha' : K.lt a t = true := by
      obtain ⟨k, hk, rfl⟩ := List.mem_iff_getElem.1 ha
      rw [List.length_take] at hk
      exact c1 k _ (by omega) (by rw [List.getElem?_eq_getElem (by omega)]; simp)
    rcases List.mem_cons.1 hb with rfl | hb
    · exact ha'
    · exact K.lt_trans ha' (hd b hb)

theorem add_at {l : List ByteArray} {t : ByteArray} (h : Rise l) {k : Nat} (hk : k ≤ l.length) (ha : ∀ j g, j < k → l[j]? = some g → K.lt g t = true) (hb : ∀ g, l[k]? = some g → K.lt g t = false) : bel l t = k := by
  refine bel_is hk ha fun j y hj hy => ?_
  rcases Nat.lt_or_ge k j with h1 | h1
  · cases hz : K.lt y t with
    | false => rfl
    | true =>
      have hkl : k < l.length := by have := (List.getElem?_eq_some_iff.1 hy).1; omega
      have e := List.getElem?_eq_getElem hkl
      have := K.lt_trans (rise_lt h h1 e hy) hz
      rw [hb _ e] at this
      cases this
  · have e : j = k := by omega
    subst e
    exact hb y hy

/-! ### The words of many lists -/

def adds (o l : List ByteArray) : List ByteArray := l.foldl add o
def un (ls : List (List ByteArray)) : List ByteArray := ls.foldl adds []

theorem adds_rise : ∀ {l o : List ByteArray}, Rise o → Rise (adds o l)
  | [], _, h => h
  | x :: l, _, h => adds_rise (l := l) (add_rise (t := x) h)
theorem mem_adds : ∀ {l o : List ByteArray} {x : ByteArray}, x ∈ adds o l ↔ x ∈ o ∨ x ∈ l
  | [], o, x => by simp [adds]
  | y :: l, o, x => by
    have := mem_adds (l := l) (o := add o y) (x := x)
    rw [show adds o (y :: l) = adds (add o y) l from rfl, this, mem_add, List.mem_cons]
    constructor
    · rintro ((h | h) | h)
      · exact .inr (.inl h)
      · exact .inl h
      · exact .inr (.inr h)
    · rintro (h | h | h)
      · exact .inl (.inr h)
      · exact .inl (.inl h)
      · exact .inr h
theorem uns_rise : ∀ {ls : List (List ByteArray)} {o : List ByteArray}, Rise o → Rise (ls.foldl adds o)
  | [], _, h => h
  | l :: ls, _, h => uns_rise (ls := ls) (adds_rise (l := l) h)
theorem mem_uns : ∀ {ls : List (List ByteArray)} {o : List ByteArray} {x : ByteArray}, x ∈ ls.foldl adds o ↔ x ∈ o ∨ ∃ l ∈ ls, x ∈ l
  | [], o, x => by simp
  | l :: ls, o, x => by
    have := mem_uns (ls := ls) (o := adds o l) (x := x)
    rw [List.foldl_cons, this, mem_adds]
    simp only [List.mem_cons, exists_eq_or_imp, or_assoc]
theorem un_rise (ls : List (List ByteArray)) : Rise (un ls) := uns_rise .nil
theorem mem_un {ls : List (List ByteArray)} {x : ByteArray} : x ∈ un ls ↔ ∃ l ∈ ls, x ∈ l := by
  unfold un
  rw [mem_uns]
  simp

theorem add_len (l : List ByteArray) (t : ByteArray) : (add l t).length ≤ l.length + 1 := by
  unfold add
  split
  · omega
  · have := bel_le l t
    simp
    omega
theorem adds_len : ∀ (l o : List ByteArray), (adds o l).length ≤ o.length + l.length
  | [], o => Nat.le_refl _
  | x :: l, o => by
    have h1 := adds_len l (add o x)
    have h2 := add_len o x
    rw [show adds o (x :: l) = adds (add o x) l from rfl, List.length_cons]
    omega

/-- The least word that any list begins with. -/
def lstep (o : Option ByteArray) (l : List ByteArray) : Option ByteArray :=
  match l, o with
  | [], o => o
  | x :: _, none => some x
  | x :: _, some w => if K.lt x w = true then some x else some w
def least (ls : List (List ByteArray)) : Option ByteArray := ls.foldl lstep none

/-- Behind the word in each list that begins with it. -/
def pass1 (w : ByteArray) : List ByteArray → List ByteArray
  | [] => []
  | x :: l => if x = w then l else x :: l
def pass (w : ByteArray) (ls : List (List ByteArray)) : List (List ByteArray) := ls.map (pass1 w)

theorem least_step {ls : List (List ByteArray)} {k : Nat} {l : List ByteArray} (h : ls[k]? = some l) : least (ls.take (k + 1)) = lstep (least (ls.take k)) l := by
  obtain ⟨hk, rfl⟩ := List.getElem?_eq_some_iff.1 h
  unfold least
  rw [List.take_succ_eq_append_getElem hk, List.foldl_append]
  rfl

theorem least_snoc (ls : List (List ByteArray)) (l : List ByteArray) : least (ls ++ [l]) = lstep (least ls) l := by
  unfold least
  rw [List.foldl_append]
  rfl

theorem least_is (ls : List (List ByteArray)) : (least ls = none → ∀ l ∈ ls, l = []) ∧ ∀ w, least ls = some w → (∃ l ∈ ls, l.head? = some w) ∧ ∀ l ∈ ls, ∀ y, l.head? = some y → K.lt y w = false := by
  suffices H : ∀ n (ls : List (List ByteArray)), ls.length = n → (least ls = none → ∀ l ∈ ls, l = []) ∧ ∀ w, least ls = some w → (∃ l ∈ ls, l.head? = some w) ∧ ∀ l ∈ ls, ∀ y, l.head? = some y → K.lt y w = false from H _ ls rfl
  intro n
  induction n with
  | zero =>
    intro ls h
    have : ls = [] := List.eq_nil_of_length_eq_zero h
    subst this
    exact ⟨fun _ l hl => (by cases hl), fun w hw => (by simp [least] at hw)⟩
  | succ n ih =>
    intro ls h
    rcases List.eq_nil_or_concat ls with rfl | ⟨ms, l, rfl⟩
    · simp at h
    rw [List.concat_eq_append] at *
    obtain ⟨i1, i2⟩ := ih ms (by simpa using h)
    rw [least_snoc]
    cases l with
    | nil =>
      refine ⟨fun e m hm => ?_, fun w e => ?_⟩
      · rcases List.mem_append.1 hm with hm | hm
        · exact i1 e m hm
        · simpa using hm
      · obtain ⟨⟨m, hm, hh⟩, i4⟩ := i2 w e
        refine ⟨⟨m, List.mem_append_left _ hm, hh⟩, fun m hm y hy => ?_⟩
        rcases List.mem_append.1 hm with hm | hm
        · exact i4 m hm y hy
        · simp at hm
          subst hm
          simp at hy
    | cons x l =>
      cases hm0 : least ms with
      | none =>
        refine ⟨fun e => by simp [lstep] at e, fun w e => ?_⟩
        simp only [lstep, Option.some.injEq] at e
        subst e
        refine ⟨⟨x :: l, by simp, rfl⟩, fun m hm y hy => ?_⟩
        rcases List.mem_append.1 hm with hm | hm
        · rw [i1 hm0 m hm] at hy
          simp at hy
        · simp at hm
          subst hm
          simp at hy
          subst hy
          exact K.lt_irrefl _
      | some u =>
        obtain ⟨⟨m, hm, hh⟩, i4⟩ := i2 u hm0
        simp only [lstep]
        cases hxu : K.lt x u with
        | true =>
          refine ⟨fun e => by simp at e, fun w e => ?_⟩
          simp only [if_true, Option.some.injEq] at e
          subst e
          refine ⟨⟨x :: l, by simp, rfl⟩, fun m hm y hy => ?_⟩
          rcases List.mem_append.1 hm with hm | hm
          · cases hb : K.lt y x with
            | false => rfl
            | true => have := K.lt_trans hb hxu; rw [i4 m hm y hy] at this; cases this
          · simp at hm
            subst hm
            simp at hy
            subst hy
            exact K.lt_irrefl _
        | false =>
          refine ⟨fun e => by simp at e, fun w e => ?_⟩
          simp only [Bool.false_eq_true, if_false, Option.some.injEq] at e
          subst e
          refine ⟨⟨m, List.mem_append_left _ hm, hh⟩, fun m' hm' y hy => ?_⟩
          rcases List.mem_append.1 hm' with hm' | hm'
          · exact i4 m' hm' y hy
          · simp at hm'
            subst hm'
            simp at hy
            subst hy
            exact hxu

theorem un_end {ls : List (List ByteArray)} (h : least ls = none) : un ls = [] := by
  refine List.eq_nil_iff_forall_not_mem.2 fun x hx => ?_
  obtain ⟨l, hl, hx⟩ := mem_un.1 hx
  rw [(least_is ls).1 h l hl] at hx
  cases hx

theorem pass1_rise {w : ByteArray} {l : List ByteArray} (h : Rise l) : Rise (pass1 w l) := by
  cases l with
  | nil => exact h
  | cons x l =>
    simp only [pass1]
    split
    · exact (List.pairwise_cons.1 h).2
    · exact h

theorem pass_rise {w : ByteArray} {ls : List (List ByteArray)} (h : ∀ l ∈ ls, Rise l) : ∀ l ∈ pass w ls, Rise l := fun l hl => by
  obtain ⟨m, hm, rfl⟩ := List.mem_map.1 hl
  exact pass1_rise (h m hm)

theorem un_next {ls : List (List ByteArray)} {w : ByteArray} (hr : ∀ l ∈ ls, Rise l) (h : least ls = some w) : un ls = w :: un (pass w ls) := by
  obtain ⟨⟨l0, h0, hh0⟩, hmin⟩ := (least_is ls).2 w h
  have hge : ∀ l ∈ ls, ∀ x ∈ l, x = w ∨ K.lt w x = true := fun l hl x hx => by
    cases l with
    | nil => cases hx
    | cons y l =>
      have hy := hmin _ hl y rfl
      have hwy : y = w ∨ K.lt w y = true := by
        cases hb : K.lt w y with
        | true => exact .inr rfl
        | false => exact .inl (K.lt_tri hy hb)
      rcases List.mem_cons.1 hx with rfl | hx
      · exact hwy
      · have := (List.pairwise_cons.1 (hr _ hl)).1 x hx
        rcases hwy with rfl | hwy
        · exact .inr this
        · exact .inr (K.lt_trans hwy this)
  have hpm : ∀ x, (∃ m ∈ pass w ls, x ∈ m) ↔ (∃ l ∈ ls, x ∈ l) ∧ x ≠ w := fun x => by
    constructor
    · rintro ⟨m, hm, hx⟩
      obtain ⟨l, hl, rfl⟩ := List.mem_map.1 hm
      cases l with
      | nil => cases hx
      | cons y l =>
        simp only [pass1] at hx
        split at hx
        · rename_i e
          refine ⟨⟨_, hl, List.mem_cons_of_mem _ hx⟩, ?_⟩
          rintro rfl
          have := (List.pairwise_cons.1 (hr _ hl)).1 x hx
          rw [e, K.lt_irrefl] at this
          cases this
        · rename_i e
          refine ⟨⟨_, hl, hx⟩, ?_⟩
          rintro rfl
          rcases List.mem_cons.1 hx with h1 | h1
          · exact e h1.symm
          · have h2 := (List.pairwise_cons.1 (hr _ hl)).1 x h1
            rcases hge _ hl y (List.mem_cons_self ..) with h3 | h3
            · exact e h3
            · rw [K.lt_asymm h3] at h2
              cases h2
    · rintro ⟨⟨l, hl, hx⟩, hne⟩
      refine ⟨pass1 w l, List.mem_map.2 ⟨l, hl, rfl⟩, ?_⟩
      cases l with
      | nil => cases hx
      | cons y l =>
        simp only [pass1]
        split
        · rename_i e
          rcases List.mem_cons.1 hx with h1 | h1
          · exact absurd (h1.trans e) hne
          · exact h1
        · exact hx
  refine rise_ext (un_rise _) (List.pairwise_cons.2 ⟨fun x hx => ?_, un_rise _⟩) fun x => ?_
  · obtain ⟨⟨l, hl, hx⟩, hne⟩ := (hpm x).1 (mem_un.1 hx)
    rcases hge l hl x hx with h1 | h1
    · exact absurd h1 hne
    · exact h1
  · rw [List.mem_cons, mem_un, mem_un, hpm]
    constructor
    · intro hx
      by_cases e : x = w
      · exact .inl e
      · exact .inr ⟨hx, e⟩
    · rintro (rfl | hx)
      · exact ⟨l0, h0, List.mem_of_mem_head? hh0⟩
      · exact hx.1

/-- What Or tells. -/
def orR (ls : List (List ByteArray)) : List ByteArray := if ls.all may = true ∧ (un ls).length ≤ 200 then un ls else []
end D
end Go.Proofs.Ytfniphaehggcgaa

/-
  The plain mathematics of layer 8, laid ahead: cards in their order, put in order; where words stand in cards. No program is named here.
-/
namespace Go.Proofs.Ytfniphaehggcgaa
set_option maxRecDepth 100000

/-- A card, as it reads. -/
structure Cd where
  id : ByteArray
  key : Int
  w : List ByteArray

theorem Cd.eq {a b : Cd} (h1 : a.id = b.id) (h2 : a.key = b.key) (h3 : a.w = b.w) : a = b := by
  cases a
  cases b
  simp at h1 h2 h3
  subst h1 h2 h3
  rfl

namespace S

/-- Is a's key the less one; or, of the same key, its id? -/
def before (a b : Cd) : Bool := decide (a.key < b.key) || (decide (a.key = b.key) && K.lt a.id b.id)

theorem before_iff {a b : Cd} : before a b = true ↔ a.key < b.key ∨ (a.key = b.key ∧ K.lt a.id b.id = true) := by
  simp [before]

theorem before_irrefl (a : Cd) : before a a = false := by simp [before, K.lt_irrefl]

theorem before_trans {a b c : Cd} (h : before a b = true) (k : before b c = true) : before a c = true := by
  rw [before_iff] at *
  rcases h with h | ⟨h1, h2⟩
  · rcases k with k | ⟨k1, k2⟩
    · exact .inl (by omega)
    · exact .inl (by omega)
  · rcases k with k | ⟨k1, k2⟩
    · exact .inl (by omega)
    · exact .inr ⟨by omega, K.lt_trans h2 k2⟩

theorem before_asymm {a b : Cd} (h : before a b = true) : before b a = false := by
  cases hb : before b a with
  | false => rfl
  | true => have := before_trans h hb; rw [before_irrefl] at this; cases this

theorem before_tri {a b : Cd} (h : before a b = false) (k : before b a = false) : a.key = b.key ∧ a.id = b.id := by
  have h1 : ¬ before a b = true := by rw [h]; decide
  have k1 : ¬ before b a = true := by rw [k]; decide
  rw [before_iff] at h1 k1
  have e : a.key = b.key := by omega
  refine ⟨e, K.lt_tri ?_ ?_⟩
  · cases hb : K.lt a.id b.id with
    | false => rfl
    | true => exact absurd (.inr ⟨e, hb⟩) h1
  · cases hb : K.lt b.id a.id with
    | false => rfl
    | true => exact absurd (.inr ⟨e.symm, hb⟩) k1

/-- Of unlike ids; each before the next ones. -/
def Unlike (l : List Cd) : Prop := l.Pairwise fun a b => a.id ≠ b.id
def Up (l : List Cd) : Prop := l.Pairwise fun a b => before a b = true

theorem Unlike.perm {l m : List Cd} (h : Unlike l) (p : l.Perm m) : Unlike m := (p.pairwise_iff fun h => Ne.symm h).1 h

/-- A card put in its place among some. -/
def ins (l : List Cd) (c : Cd) : List Cd := l.takeWhile (fun x => before x c) ++ c :: l.dropWhile (fun x => before x c)
/-- Cards put in order. -/
def srt (l : List Cd) : List Cd := l.foldl ins []

theorem ins_perm (l : List Cd) (c : Cd) : (ins l c).Perm (c :: l) := by
  unfold ins
  refine List.perm_middle.trans ?_
  rw [List.takeWhile_append_dropWhile]

theorem srts_perm : ∀ (l o : List Cd), (l.foldl ins o).Perm (o ++ l)
  | [], o => by simp
  | c :: l, o => by
    rw [List.foldl_cons]
    refine (srts_perm l (ins o c)).trans ?_
    refine ((ins_perm o c).append_right l).trans ?_
    exact List.perm_middle.symm

theorem srt_perm (l : List Cd) : (srt l).Perm l := srts_perm l []

theorem drop_ge : ∀ {l : List Cd} {c : Cd}, Up l → ∀ x ∈ l.dropWhile (fun x => before x c), before x c = false
  | [], _, _, x, hx => by cases hx
  | y :: l, c, h, x, hx => by
    obtain ⟨h1, h2⟩ := List.pairwise_cons.1 h
    cases hy : before y c with
    | true =>
      rw [List.dropWhile_cons, if_pos hy] at hx
      exact drop_ge h2 x hx
    | false =>
      rw [List.dropWhile_cons, if_neg (by rw [hy]; decide)] at hx
      rcases List.mem_cons.1 hx with rfl | hx
      · exact hy
      · cases hb : before x c with
        | false => rfl
        | true => have := before_trans (h1 x hx) hb; rw [hy] at this; cases this

theorem take_lt : ∀ {l : List Cd} {c x : Cd}, x ∈ l.takeWhile (fun x => before x c) → before x c = true
  | [], _, _, h => by cases h
  | y :: l, c, x, h => by
    cases hy : before y c with
    | true =>
      rw [List.takeWhile_cons, if_pos hy] at h
      rcases List.mem_cons.1 h with rfl | h
      · exact hy
      · exact take_lt h
    | false =>
      rw [List.takeWhile_cons, if_neg (by rw [hy]; decide)] at h
      cases h

theorem ins_up {l : List Cd} {c : Cd} (h : Up l) (hu : ∀ x ∈ l, x.id ≠ c.id) : Up (ins l c) := by
  unfold ins
  have hd : ∀ x ∈ l.dropWhile (fun x => before x c), before c x = true := fun x hx => by
    have h1 := drop_ge h x hx
    cases hb : before c x with
    | true => rfl
    | false => exact absurd (before_tri h1 hb).2 (hu x (List.dropWhile_sublist _ |>.subset hx))
  refine List.pairwise_append.2 ⟨h.sublist (List.takeWhile_sublist _), List.pairwise_cons.2 ⟨hd, h.sublist (List.dropWhile_sublist _)⟩, fun a ha b hb => ?_⟩
  have h1 := take_lt ha
  rcases List.mem_cons.1 hb with rfl | hb
  · exact h1
  · exact before_trans h1 (hd b hb)

theorem srts_up : ∀ {l o : List Cd}, Up o → Unlike (o ++ l) → Up (l.foldl ins o)
  | [], _, h, _ => h
  | c :: l, o, h, hu => by
    rw [List.foldl_cons]
    refine srts_up (ins_up h fun x hx => ?_) (hu.perm ?_)
    · exact (List.pairwise_append.1 hu).2.2 x hx c (List.mem_cons_self ..)
    · exact List.perm_middle.trans ((ins_perm o c).append_right l).symm

theorem srt_up {l : List Cd} (h : Unlike l) : Up (srt l) := srts_up .nil h

/-- Whichever way cards are put in order, it is the same row. -/
theorem up_ext : ∀ {l m : List Cd}, Up l → Up m → l.Perm m → l = m
  | [], m, _, _, p => (List.nil_perm.1 p).symm
  | x :: l, [], _, _, p => by have := p.length_eq; simp at this
  | x :: l, y :: m, hl, hm, p => by
    obtain ⟨l1, l2⟩ := List.pairwise_cons.1 hl
    obtain ⟨m1, m2⟩ := List.pairwise_cons.1 hm
    have e : x = y := by
      rcases List.mem_cons.1 (p.subset (List.mem_cons_self ..)) with e | hx
      · exact e
      · rcases List.mem_cons.1 (p.symm.subset (List.mem_cons_self ..)) with e | hy
        · exact e.symm
        · have a1 := m1 x hx
          have a2 := before_asymm (l1 y hy)
          rw [a1] at a2
          cases a2
    subst e
    rw [up_ext l2 m2 p.cons_inv]

theorem srt_is {l m : List Cd} (h : Unlike l) (hm : Up m) (p : m.Perm l) : srt l = m := up_ext (srt_up h) hm ((srt_perm l).trans p.symm)

theorem ins_at {l : List Cd} {c : Cd} {k : Nat} (hk : k ≤ l.length) (ha : ∀ j x, j < k → l[j]? = some x → before x c = true) (hb : ∀ x, l[k]? = some x → before x c = false) : ins l c = l.take k ++ c :: l.drop k := by
  have key : ∀ (l : List Cd) (k : Nat), k ≤ l.length → (∀ j x, j < k → l[j]? = some x → before x c = true) → (∀ x, l[k]? = some x → before x c = false) → l.takeWhile (fun x => before x c) = l.take k ∧ l.dropWhile (fun x => before x c) = l.drop k := by
    intro l
    induction l with
    | nil => intro k _ _ _; simp
    | cons y l ih =>
      intro k hk ha hb
      cases k with
      | zero =>
        have hy := hb y rfl
        rw [List.takeWhile_cons, List.dropWhile_cons, if_neg (by rw [hy]; decide), if_neg (by rw [hy]; decide)]
        simp
      | succ k =>
        have hy := ha 0 y (by omega) rfl
        obtain ⟨h1, h2⟩ := ih k (by simpa using hk) (fun j x hj hx => ha (j + 1) x (by omega) (by simpa using hx)) (fun x hx => hb x (by simpa using hx))
        rw [List.takeWhile_cons, List.dropWhile_cons, if_pos hy, if_pos hy, h1, h2]
        simp
  obtain ⟨h1, h2⟩ := key l k hk ha hb
  unfold ins
  rw [h1, h2]

/-! ### Where words stand -/

/-- From place k on: where t stands. -/
def plc (t : ByteArray) : Nat → List ByteArray → List Int
  | _, [] => []
  | k, x :: l => if x = t then (k : Int) :: plc t (k + 1) l else plc t (k + 1) l
def places (l : List ByteArray) (t : ByteArray) : List Int := plc t 0 l

theorem plc_app (t : ByteArray) : ∀ (l m : List ByteArray) (k : Nat), plc t k (l ++ m) = plc t k l ++ plc t (k + l.length) m
  | [], m, k => by simp [plc]
  | x :: l, m, k => by
    have := plc_app t l m (k + 1)
    simp only [List.cons_append, plc, this, List.length_cons, show k + 1 + l.length = k + (l.length + 1) by omega]
    split <;> simp

theorem places_step {l : List ByteArray} {k : Nat} {x : ByteArray} (h : l[k]? = some x) (t : ByteArray) : places (l.take (k + 1)) t = places (l.take k) t ++ if x = t then [(k : Int)] else [] := by
  obtain ⟨hk, rfl⟩ := List.getElem?_eq_some_iff.1 h
  unfold places
  rw [List.take_succ_eq_append_getElem hk, plc_app]
  have e : (l.take k).length = k := by simp; omega
  rw [e]
  simp [plc]

theorem mem_plc (t : ByteArray) : ∀ (l : List ByteArray) (k : Nat) (y : Int), y ∈ plc t k l ↔ ∃ j : Nat, y = ((k + j : Nat) : Int) ∧ l[j]? = some t
  | [], k, y => by simp [plc]
  | x :: l, k, y => by
    have ih := mem_plc t l (k + 1) y
    have key : (∃ j : Nat, y = ((k + j : Nat) : Int) ∧ (x :: l)[j]? = some t) ↔ (y = (k : Int) ∧ x = t) ∨ ∃ j : Nat, y = ((k + 1 + j : Nat) : Int) ∧ l[j]? = some t := by
      constructor
      · rintro ⟨j, h1, h2⟩
        cases j with
        | zero => exact .inl ⟨by simpa using h1, by simpa using h2⟩
        | succ j => exact .inr ⟨j, by rw [h1]; congr 1; omega, by simpa using h2⟩
      · rintro (⟨h1, h2⟩ | ⟨j, h1, h2⟩)
        · exact ⟨0, by simpa using h1, by simp [h2]⟩
        · exact ⟨j + 1, by rw [h1]; congr 1; omega, by simpa using h2⟩
    rw [key, ← ih]
    simp only [plc]
    split
    · rename_i e
      simp [e]
    · rename_i e
      simp [e]

theorem mem_places {l : List ByteArray} {t : ByteArray} {y : Int} : y ∈ places l t ↔ ∃ j : Nat, y = (j : Int) ∧ l[j]? = some t := by
  unfold places
  rw [mem_plc]
  simp

theorem plc_up (t : ByteArray) : ∀ (l : List ByteArray) (k : Nat), (plc t k l).Pairwise (fun a b => a < b) ∧ ∀ y ∈ plc t k l, (k : Int) ≤ y
  | [], _ => ⟨.nil, fun y hy => by cases hy⟩
  | x :: l, k => by
    obtain ⟨h1, h2⟩ := plc_up t l (k + 1)
    simp only [plc]
    split
    · refine ⟨List.pairwise_cons.2 ⟨fun y hy => by have := h2 y hy; omega, h1⟩, fun y hy => ?_⟩
      rcases List.mem_cons.1 hy with rfl | hy
      · omega
      · have := h2 y hy; omega
    · exact ⟨h1, fun y hy => by have := h2 y hy; omega⟩

theorem places_up (l : List ByteArray) (t : ByteArray) : (places l t).Pairwise fun a b => a < b := (plc_up t l 0).1

theorem plc_len (t : ByteArray) : ∀ (l : List ByteArray) (k : Nat), (plc t k l).length ≤ l.length
  | [], _ => Nat.le_refl _
  | x :: l, k => by
    have := plc_len t l (k + 1)
    simp only [plc, List.length_cons]
    split
    · simp; omega
    · omega
theorem places_len (l : List ByteArray) (t : ByteArray) : (places l t).length ≤ l.length := plc_len t l 0

theorem places_nil {l : List ByteArray} {t : ByteArray} : places l t = [] ↔ t ∉ l := by
  rw [List.eq_nil_iff_forall_not_mem]
  constructor
  · intro h ht
    obtain ⟨j, hj, e⟩ := List.mem_iff_getElem.1 ht
    exact h (j : Int) (mem_places.2 ⟨j, rfl, by rw [List.getElem?_eq_getElem hj, e]⟩)
  · intro h y hy
    obtain ⟨j, -, e⟩ := mem_places.1 hy
    exact h (List.mem_of_getElem? e)

/-! ### Postings: of each document, by its place, in which a word stands, at which places -/

/-- From document i on. -/
def pst (t : ByteArray) : Nat → List Cd → List (Int × List Int)
  | _, [] => []
  | i, c :: l => if places c.w t = [] then pst t (i + 1) l else ((i : Int), places c.w t) :: pst t (i + 1) l
def posts (l : List Cd) (t : ByteArray) : List (Int × List Int) := pst t 0 l

theorem pst_app (t : ByteArray) : ∀ (l m : List Cd) (i : Nat), pst t i (l ++ m) = pst t i l ++ pst t (i + l.length) m
  | [], m, i => by simp [pst]
  | c :: l, m, i => by
    have := pst_app t l m (i + 1)
    simp only [List.cons_append, pst, this, List.length_cons, show i + 1 + l.length = i + (l.length + 1) by omega]
    split <;> simp

theorem posts_step {l : List Cd} {i : Nat} {c : Cd} (h : l[i]? = some c) (t : ByteArray) : posts (l.take (i + 1)) t = posts (l.take i) t ++ if places c.w t = [] then [] else [((i : Int), places c.w t)] := by
  obtain ⟨hi, rfl⟩ := List.getElem?_eq_some_iff.1 h
  unfold posts
  rw [List.take_succ_eq_append_getElem hi, pst_app]
  have e : (l.take i).length = i := by simp; omega
  rw [e]
  simp [pst]

theorem mem_pst (t : ByteArray) : ∀ (l : List Cd) (i : Nat) (p : Int × List Int), p ∈ pst t i l ↔ ∃ (j : Nat) (c : Cd), l[j]? = some c ∧ p = (((i + j : Nat) : Int), places c.w t) ∧ places c.w t ≠ []
  | [], i, p => by simp [pst]
  | x :: l, i, p => by
    have ih := mem_pst t l (i + 1) p
    have key : (∃ (j : Nat) (c : Cd), (x :: l)[j]? = some c ∧ p = (((i + j : Nat) : Int), places c.w t) ∧ places c.w t ≠ []) ↔ (p = ((i : Int), places x.w t) ∧ places x.w t ≠ []) ∨ ∃ (j : Nat) (c : Cd), l[j]? = some c ∧ p = (((i + 1 + j : Nat) : Int), places c.w t) ∧ places c.w t ≠ [] := by
      constructor
      · rintro ⟨j, c, h1, h2, h3⟩
        cases j with
        | zero =>
          simp at h1
          subst h1
          exact .inl ⟨by simpa using h2, h3⟩
        | succ j => exact .inr ⟨j, c, by simpa using h1, by rw [h2, show i + 1 + j = i + (j + 1) by omega], h3⟩
      · rintro (⟨h2, h3⟩ | ⟨j, c, h1, h2, h3⟩)
        · exact ⟨0, x, rfl, by simpa using h2, h3⟩
        · exact ⟨j + 1, c, by simpa using h1, by rw [h2, show i + 1 + j = i + (j + 1) by omega], h3⟩
    rw [key, ← ih]
    simp only [pst]
    split
    · rename_i e
      simp [e]
    · rename_i e
      simp [e]

theorem mem_posts {l : List Cd} {t : ByteArray} {p : Int × List Int} : p ∈ posts l t ↔ ∃ (j : Nat) (c : Cd), l[j]? = some c ∧ p = ((j : Int), places c.w t) ∧ places c.w t ≠ [] := by
  unfold posts
  rw [mem_pst]
  simp

theorem pst_up (t : ByteArray) : ∀ (l : List Cd) (i : Nat), (pst t i l).Pairwise (fun p q => p.1 < q.1) ∧ ∀ p ∈ pst t i l, (i : Int) ≤ p.1
  | [], _ => ⟨.nil, fun p hp => by cases hp⟩
  | x :: l, i => by
    obtain ⟨h1, h2⟩ := pst_up t l (i + 1)
    simp only [pst]
    split
    · exact ⟨h1, fun p hp => by have := h2 p hp; omega⟩
    · refine ⟨List.pairwise_cons.2 ⟨fun p hp => by have := h2 p hp; simp only; omega, h1⟩, fun p hp => ?_⟩
      rcases List.mem_cons.1 hp with rfl | hp
      · simp
      · have := h2 p hp; omega
theorem posts_up (l : List Cd) (t : ByteArray) : (posts l t).Pairwise fun p q => p.1 < q.1 := (pst_up t l 0).1

theorem pst_len (t : ByteArray) : ∀ (l : List Cd) (i : Nat), (pst t i l).length ≤ l.length
  | [], _ => Nat.le_refl _
  | x :: l, i => by
    have := pst_len t l (i + 1)
    simp only [pst, List.length_cons]
    split
    · omega
    · simp; omega
theorem posts_len (l : List Cd) (t : ByteArray) : (posts l t).length ≤ l.length := pst_len t l 0

/-- A word stands in document d at place k, by its postings, just if it does by the cards. -/
theorem stands {l : List Cd} {t : ByteArray} {d k : Nat} {c : Cd} (hc : l[d]? = some c) : (∃ p ∈ posts l t, p.1 = (d : Int) ∧ (k : Int) ∈ p.2) ↔ c.w[k]? = some t := by
  constructor
  · rintro ⟨p, hp, h1, h2⟩
    obtain ⟨j, c', hj, rfl, -⟩ := mem_posts.1 hp
    have e : j = d := by simp only at h1; omega
    subst e
    rw [hc] at hj
    cases hj
    obtain ⟨y, hy, h3⟩ := mem_places.1 h2
    have e : y = k := by omega
    subst e
    exact h3
  · intro h
    have hm : (k : Int) ∈ places c.w t := mem_places.2 ⟨k, rfl, h⟩
    exact ⟨((d : Int), places c.w t), mem_posts.2 ⟨d, c, hc, rfl, fun e => by rw [e] at hm; cases hm⟩, rfl, hm⟩

/-- What the postings tell of one document are the places in it. -/
theorem of_doc {l : List Cd} {t : ByteArray} {d : Nat} {c : Cd} (hc : l[d]? = some c) : ((posts l t).filter fun p => decide (p.1 = (d : Int))).flatMap (·.2) = places c.w t := by
  have key : ∀ (l : List Cd) (i : Nat), (∀ j c', l[j]? = some c' → i + j ≠ d) → (pst t i l).filter (fun p => decide (p.1 = (d : Int))) = [] := by
    intro l i h
    rw [List.filter_eq_nil_iff]
    intro p hp
    obtain ⟨j, c', hj, rfl, -⟩ := (mem_pst t l i p).1 hp
    have := h j c' hj
    simp only [decide_eq_true_eq]
    omega
  obtain ⟨hd, rfl⟩ := List.getElem?_eq_some_iff.1 hc
  have hsplit : l = l.take d ++ ([l[d]] ++ l.drop (d + 1)) := by
    rw [List.singleton_append, ← List.drop_eq_getElem_cons hd, List.take_append_drop]
  have hlen : (l.take d).length = d := by simp; omega
  have e1 : posts l t = pst t 0 (l.take d) ++ (pst t d [l[d]] ++ pst t (d + 1) (l.drop (d + 1))) := by
    have : posts l t = pst t 0 (l.take d ++ ([l[d]] ++ l.drop (d + 1))) := by rw [← hsplit]; rfl
    rw [this, pst_app, pst_app, hlen]
    simp
  have f1 := key (l.take d) 0 (fun j c' hj => by have := (List.getElem?_eq_some_iff.1 hj).1; omega)
  have f3 := key (l.drop (d + 1)) (d + 1) (fun j c' _ => by omega)
  rw [e1, List.filter_append, List.filter_append, f1, f3, List.nil_append, List.append_nil]
  simp only [pst]
  split
  · rename_i e
    simp [e]
  · simp

/-! ### What may be, and the errors -/

def fits (c : Cd) : Bool := decide (c.w.length ≤ 120) && c.w.all (fun x => decide (1 ≤ x.size) && decide (x.size ≤ 32)) && decide (1 ≤ c.id.size) && decide (c.id.size ≤ 16) && decide (0 ≤ c.key) && decide (c.key ≤ 1073741824)

/-- The words of them all, in their order, each once. -/
def words (l : List Cd) : List ByteArray := D.un (l.map (·.w))

theorem mem_words {l : List Cd} {x : ByteArray} : x ∈ words l ↔ ∃ c ∈ l, x ∈ c.w := by
  unfold words
  rw [D.mem_un]
  constructor
  · rintro ⟨m, hm, hx⟩
    obtain ⟨c, hc, rfl⟩ := List.mem_map.1 hm
    exact ⟨c, hc, hx⟩
  · rintro ⟨c, hc, hx⟩
    exact ⟨c.w, List.mem_map.2 ⟨c, hc, rfl⟩, hx⟩

theorem words_rise (l : List Cd) : D.Rise (words l) := D.un_rise _

/-- In whatever order the cards stand, their words are the same. -/
theorem words_perm {l m : List Cd} (p : l.Perm m) : words l = words m :=
  D.rise_ext (words_rise _) (words_rise _) fun x => by
    rw [mem_words, mem_words]
    exact ⟨fun ⟨c, hc, hx⟩ => ⟨c, p.subset hc, hx⟩, fun ⟨c, hc, hx⟩ => ⟨c, p.symm.subset hc, hx⟩⟩
end S
end Go.Proofs.Ytfniphaehggcgaa

/-
  Slices whose elements have several cells ('Kl'), read and of the call's own; cards ('Cs'), words with their postings ('Ts'), segments ('Sv'). No function of the program is named here.
-/
namespace Go.Proofs.Ytfniphaehggcgaa
set_option maxRecDepth 100000
open Go.RowKit

abbrev Pts := Option Addr × Nat × Nat
theorem sv_one (s : Pts) : (sv s).oneCell' = true := rfl

section
variable {α : Type} {f : α → List Value} {k : Nat}

theorem flat_len (hk : ∀ y, (f y).length = k) : ∀ l : List α, (l.flatMap f).length = l.length * k
  | [] => by simp
  | y :: l => by
    have := flat_len hk l
    simp only [List.flatMap_cons, List.length_append, hk, this, List.length_cons, Nat.add_mul, Nat.one_mul]
    omega

theorem flat_at (hk : ∀ y, (f y).length = k) : ∀ {l : List α} {i : Nat} {y : α}, l[i]? = some y → ∀ j, j < k → (l.flatMap f)[i * k + j]? = (f y)[j]?
  | [], i, y, h, _, _ => by simp at h
  | z :: l, i, y, h, j, hj => by
    rw [List.flatMap_cons]
    cases i with
    | zero =>
      simp at h
      subst h
      rw [Nat.zero_mul, Nat.zero_add, List.getElem?_append_left (by rw [hk]; exact hj)]
    | succ i =>
      rw [List.getElem?_append_right (by rw [hk, Nat.add_mul, Nat.one_mul]; omega), hk, show (i + 1) * k + j - k = i * k + j by rw [Nat.add_mul, Nat.one_mul]; omega]
      exact flat_at hk (by simpa using h) j hj

theorem flat_inv (hk : ∀ y, (f y).length = k) : ∀ {l : List α} {j : Nat} {u : Value}, (l.flatMap f)[j]? = some u → ∃ i y r, l[i]? = some y ∧ (f y)[r]? = some u ∧ j = i * k + r
  | [], j, u, h => by simp at h
  | z :: l, j, u, h => by
    rw [List.flatMap_cons] at h
    rcases Nat.lt_or_ge j k with h1 | h1
    · rw [List.getElem?_append_left (by rw [hk]; exact h1)] at h
      exact ⟨0, z, j, rfl, h, by omega⟩
    · rw [List.getElem?_append_right (by rw [hk]; exact h1), hk] at h
      obtain ⟨i, y, r, h2, h3, h4⟩ := flat_inv hk h
      exact ⟨i + 1, y, r, by simpa using h2, h3, by rw [Nat.add_mul, Nat.one_mul]; omega⟩

/-- The slice value v reads, in w, as l, each element of k cells as f has them. -/
def Kl (f : α → List Value) (k : Nat) (w : World) (v : Value) (l : List α) : Prop :=
  ∃ a cap, v = .slice a l.length cap ∧ l.length ≤ cap ∧ cap ≤ maxLen ∧ (a = none → cap = 0) ∧
    ∀ x, a = some x → ∀ i y, l[i]? = some y → ∀ j u, (f y)[j]? = some u → w.cell? (x.add (i * k + j)) = some u

theorem Kl.nil (f : α → List Value) (k : Nat) (w : World) : Kl f k w (.slice none 0 0) [] :=
  ⟨none, 0, rfl, Nat.le_refl _, Nat.zero_le _, fun _ => rfl, fun _ h => by cases h⟩

theorem Kl.below {w w' : World} {v : Value} {l : List α} (h : Kl f k w v l) (hb : Below w.heap.size w w') : Kl f k w' v l := by
  obtain ⟨a, cap, hv, hl, hm, hn, hc⟩ := h
  refine ⟨a, cap, hv, hl, hm, hn, fun x hx i y hi j u hu => ?_⟩
  have h0 := hc x hx i y hi j u hu
  rw [hb.cell (World.block_lt_of_cell? w _ h0)]
  exact h0

theorem Kl.open {w : World} {v : Value} {l : List α} (h : Kl f k w v l) (hk : ∀ y, (f y).length = k) (hk0 : 0 < k) :
    ∃ a cap, v = .slice a l.length cap ∧ l.length ≤ cap ∧ cap ≤ 9223372036854775807 ∧ (a = none → cap = 0) ∧
      (0 < l.length → ∃ b off, a = some ⟨b, off, none⟩ ∧ b < w.heap.size ∧ ∀ i y, l[i]? = some y → ∀ j u, (f y)[j]? = some u → w.cell? ⟨b, off + (i * k + j), none⟩ = some u) := by
  obtain ⟨a, cap, hv, hl, hm, hn, hc⟩ := h
  refine ⟨a, cap, hv, hl, hm, hn, fun hp => ?_⟩
  cases a with
  | none => have := hn rfl; omega
  | some x =>
    obtain ⟨b, off, spot⟩ := x
    have hz : 0 < (f l[0]).length := by rw [hk]; exact hk0
    have h0 := hc _ rfl 0 l[0] (List.getElem?_eq_getElem hp) 0 _ (List.getElem?_eq_getElem hz)
    have hs : spot = none := by simpa [Addr.add] using World.cell?_spot h0
    subst hs
    refine ⟨b, off, rfl, ?_, fun i y hi j u hu => by rw [← Addr.add_lit]; exact hc _ rfl i y hi j u hu⟩
    simpa [Addr.add] using World.block_lt_of_cell? w _ h0

theorem Kl.owned {w : World} {B : Nat} {e : TypeId} {v : Value} {l : List α} {n : Nat} (hk : ∀ y, (f y).length = k) (hk0 : 0 < k) (h : w.ownsRow B e k v n (l.flatMap f)) : Kl f k w v l := by
  have hl := h.1
  rw [flat_len hk] at hl
  have hl : l.length = n := Nat.eq_of_mul_eq_mul_right hk0 hl
  subst hl
  rcases id h.2 with ⟨rfl, h0⟩ | ⟨g, cap, cur, rfl, hb, hg, hn, hm, hs, ht⟩
  · have : l = [] := List.eq_nil_of_length_eq_zero h0
    subst this
    exact Kl.nil f k w
  · refine ⟨_, cap, rfl, hn, hm, (fun h => by cases h), fun x hx i y hi j u hu => ?_⟩
    obtain rfl := Option.some.inj hx
    have hj : j < k := by have := (List.getElem?_eq_some_iff.1 hu).1; rw [hk] at this; exact this
    exact h.cells (g := g) rfl (i * k + j) u (by rw [flat_at hk hi j hj]; exact hu)

/-- 'out = append(out, y)': the row, one longer; where it lies; what stays. -/
theorem append_oneF {P : Program} {ops : Array Oper} {rest : List Oper} {o : Oper} {a : Act} {Q : Exit → Act → World → Prop} {wr : World} (hgd : o.guard = none) (s x : Operand) (t : TypeId)
    (ho : o.op = .call { callee := .builtin .append, args := #[s, x], argTypes := #[t, t] }) {B : Nat} {e : TypeId} {i : TypeInfo} {z : Value} {bytes : Nat}
    (ht : P.underlying t = some (.slice e)) (hi : P.info? e = some i) (hz : i.zero = some z) (hsize : i.size = k) (hby : i.bytes = bytes) (hzs : z.cells.size = k) (hk0 : 0 < k)
    (hk : ∀ y, (f y).length = k) (hf : ∀ y, ∀ u ∈ f y, u.oneCell' = true) {pre : List α} (y : α) {cs : Array Value} (hcs : cs.toList = f y) {v : Value} (hs : a.eval s = v) {n : Nat} (hx : a.eval x = .slice (some ⟨n, 0, none⟩) 1 1) (hn : n = wr.heap.size)
    (hown : wr.ownsRow B e k v pre.length (pre.flatMap f)) (hB : B ≤ wr.heap.size) (hlen : pre.length < 4294967296) (hb8 : bytes ≤ 64)
    (h : ∀ g cap w', w'.ownsRow B e k (.slice (some ⟨g, 0, none⟩) (pre.length + 1) cap) (pre ++ [y]).length ((pre ++ [y]).flatMap f) → wr.grownBy w' v.ownBlock → (v.ownBlock = some g ∨ wr.heap.size ≤ g) → wpList P ops Q rest (a.put o.dst (.slice (some ⟨g, 0, none⟩) (pre.length + 1) cap)) w') :
    wpList P ops Q (o :: rest) a (wr.alloc (.cells cs e)) := by
  subst hn
  refine wpList_append_lies _ hgd s x t ho B e i z k bytes ht hi hz hsize hby hzs hk0 v pre.length _ hs (hown.alloc _) ⟨wr.heap.size, 0, none⟩ 1 1 (f y) hx (by rw [hk, Nat.one_mul]) ?_ (hf y) (by omega) ?_ ?_ ?_ (wr.heap.size + 1) (by simp) ?_
  · intro j u hj
    have : cs[j]? = some u := by rw [← Array.getElem?_toList, hcs]; exact hj
    rw [Addr.add_lit, Nat.zero_add]
    exact box_cell (heap_alloc_new wr _) this
  · unfold maxLen; omega
  · have h1 : (pre.length + 1) * bytes ≤ 4294967296 * 64 := Nat.mul_le_mul (by omega) hb8
    omega
  · simp; omega
  · intro g cap w1 hown' hg hat _
    refine h g cap w1 (by simpa using hown') ((World.grownBy_alloc _ _ _).trans hg) ?_
    rcases hat with h1 | h1
    · exact .inl h1
    · exact .inr (by omega)

/-- 'append(out, xs...)'. -/
theorem append_allF {P : Program} {ops : Array Oper} {rest : List Oper} {o : Oper} {a : Act} {Q : Exit → Act → World → Prop} {wr : World} (hgd : o.guard = none) (s x : Operand) (t : TypeId)
    (ho : o.op = .call { callee := .builtin .append, args := #[s, x], argTypes := #[t, t] }) {B : Nat} {e : TypeId} {i : TypeInfo} {z : Value} {bytes : Nat}
    (ht : P.underlying t = some (.slice e)) (hi : P.info? e = some i) (hz : i.zero = some z) (hsize : i.size = k) (hby : i.bytes = bytes) (hzs : z.cells.size = k) (hk0 : 0 < k)
    (hk : ∀ y, (f y).length = k) (hf : ∀ y, ∀ u ∈ f y, u.oneCell' = true) {pre zs : List α} {v u : Value} (hs : a.eval s = v) (hx : a.eval x = u) (hu : Kl f k wr u zs)
    (hown : wr.ownsRow B e k v pre.length (pre.flatMap f)) (hB : B ≤ wr.heap.size) (hlen : pre.length + zs.length ≤ 4294967296) (hb8 : bytes ≤ 64)
    (h : ∀ v' w', w'.ownsRow B e k v' (pre ++ zs).length ((pre ++ zs).flatMap f) → wr.grownBy w' v.ownBlock → wpList P ops Q rest (a.put o.dst v') w') :
    wpList P ops Q (o :: rest) a wr := by
  obtain ⟨ao, cap, rfl, hl, hm, hn, hc⟩ := hu
  cases ao with
  | none =>
    have hcap := hn rfl
    subst hcap
    have hz0 : zs = [] := List.eq_nil_of_length_eq_zero (by omega)
    subst hz0
    refine wpList_append_own_none hgd s x t ho B e i k ht hi v pre.length _ hs hown hx ?_
    exact h v wr (by simpa using hown) ⟨rfl, rfl, rfl, Nat.le_refl _, fun _ _ _ => rfl⟩
  | some ad =>
    refine wpList_append_own _ hgd s x t ho B e i z k bytes ht hi hz hsize hby hzs hk0 v pre.length _ hs hown ad zs.length cap (zs.flatMap f) hx (flat_len hk zs) ?_ ?_ ?_ ?_ hB ?_
    · intro j y hj
      obtain ⟨i', y', r, h1, h2, rfl⟩ := flat_inv hk hj
      exact hc ad rfl i' y' h1 r y h2
    · intro u hu
      obtain ⟨y, _, hy⟩ := List.mem_flatMap.1 hu
      exact hf y u hy
    · unfold maxLen; omega
    · have h1 : (pre.length + zs.length) * bytes ≤ 4294967296 * 64 := Nat.mul_le_mul hlen hb8
      omega
    · intro v' w1 hown' hg _
      exact h v' w1 (by simpa using hown') hg
end

/-- 'out = append(out, y)' at elements of one cell: the row, one longer; where it lies; what stays. -/
theorem append_oneL {α : Type} {f : α → Value} {P : Program} {ops : Array Oper} {rest : List Oper} {o : Oper} {a : Act} {Q : Exit → Act → World → Prop} {wr : World} (hgd : o.guard = none) (s x : Operand) (t : TypeId)
    (ho : o.op = .call { callee := .builtin .append, args := #[s, x], argTypes := #[t, t] }) {B : Nat} {e : TypeId} {i : TypeInfo} {z : Value} {bytes : Nat}
    (ht : P.underlying t = some (.slice e)) (hi : P.info? e = some i) (hz : i.zero = some z) (hsize : i.size = 1) (hby : i.bytes = bytes) (hzs : z.cells.size = 1)
    (hf : ∀ y, (f y).oneCell' = true) {pre : List α} (y : α) {v : Value} (hs : a.eval s = v) {n : Nat} (hx : a.eval x = .slice (some ⟨n, 0, none⟩) 1 1) (hn : n = wr.heap.size)
    (hown : wr.ownsRow B e 1 v pre.length (pre.map f)) (hB : B ≤ wr.heap.size) (hlen : (pre.length + 1) * bytes ≤ 140737488355328) (hlen2 : pre.length < 140737488355328)
    (h : ∀ g cap w', w'.ownsRow B e 1 (.slice (some ⟨g, 0, none⟩) (pre.length + 1) cap) (pre ++ [y]).length ((pre ++ [y]).map f) → wr.grownBy w' v.ownBlock → (v.ownBlock = some g ∨ wr.heap.size ≤ g) → wpList P ops Q rest (a.put o.dst (.slice (some ⟨g, 0, none⟩) (pre.length + 1) cap)) w') :
    wpList P ops Q (o :: rest) a (wr.alloc (.cells #[f y] e)) := by
  subst hn
  refine wpList_append_lies _ hgd s x t ho B e i z 1 bytes ht hi hz hsize hby hzs (by decide) v pre.length _ hs (hown.alloc _) ⟨wr.heap.size, 0, none⟩ 1 1 [f y] hx rfl ?_ ?_ (by omega) ?_ hlen ?_ (wr.heap.size + 1) (by simp) ?_
  · intro j u hj
    match j, hj with
    | 0, hj => simp at hj; subst hj; simp [Addr.add]
  · intro u hu; simp at hu; subst hu; exact hf y
  · unfold maxLen; omega
  · simp; omega
  · intro g cap w1 hown' hg hat _
    refine h g cap w1 (by simpa using hown') ((World.grownBy_alloc _ _ _).trans hg) ?_
    rcases hat with h1 | h1
    · exact .inl h1
    · exact .inr (by omega)

/-! ### Cards -/

/-- The three cells of a card, whose words lie where the slice says. -/
def encC (p : Cd × Pts) : List Value := [.string p.1.id, .int .i64 p.1.key, sv p.2]
theorem encC_len (p : Cd × Pts) : (encC p).length = 3 := rfl
theorem encC_one (p : Cd × Pts) : ∀ u ∈ encC p, u.oneCell' = true := by
  intro u hu
  simp only [encC, List.mem_cons, List.not_mem_nil, or_false] at hu
  rcases hu with rfl | rfl | rfl <;> rfl
/-- The words of each lie, in w, where its slice says. -/
def Ws (w : World) (ps : List (Cd × Pts)) : Prop := ∀ p ∈ ps, Gl .string w (sv p.2) p.1.w
theorem Ws.below {w w' : World} {ps : List (Cd × Pts)} (h : Ws w ps) (hb : Below w.heap.size w w') : Ws w' ps := fun p hp => (h p hp).below hb

/-- The slice value v reads, in w, as the cards L. -/
def Cs (w : World) (v : Value) (L : List Cd) : Prop := ∃ ps, Kl encC 3 w v ps ∧ ps.map (·.1) = L ∧ Ws w ps

theorem Cs.nil (w : World) : Cs w (.slice none 0 0) [] := ⟨[], Kl.nil _ _ _, rfl, fun p hp => by cases hp⟩
theorem Cs.below {w w' : World} {v : Value} {L : List Cd} (h : Cs w v L) (hb : Below w.heap.size w w') : Cs w' v L := by
  obtain ⟨ps, h1, h2, h3⟩ := h
  exact ⟨ps, h1.below hb, h2, h3.below hb⟩

theorem Cs.open {w : World} {v : Value} {L : List Cd} (h : Cs w v L) :
    ∃ a cap, v = .slice a L.length cap ∧ L.length ≤ cap ∧ cap ≤ 9223372036854775807 ∧ (a = none → cap = 0) ∧
      (0 < L.length → ∃ b off, a = some ⟨b, off, none⟩ ∧ b < w.heap.size ∧ ∀ i c, L[i]? = some c → ∃ wa wc, w.cell? ⟨b, off + i * 3, none⟩ = some (.string c.id) ∧ w.cell? ⟨b, off + i * 3 + 1, none⟩ = some (.int .i64 c.key) ∧
        w.cell? ⟨b, off + i * 3 + 2, none⟩ = some (.slice wa c.w.length wc) ∧ Gl .string w (.slice wa c.w.length wc) c.w) := by
  obtain ⟨ps, h1, rfl, h3⟩ := h
  obtain ⟨a, cap, rfl, hl, hm, hn, ho⟩ := h1.open encC_len (by decide)
  rw [List.length_map]
  refine ⟨a, cap, rfl, hl, hm, hn, fun hp => ?_⟩
  obtain ⟨b, off, rfl, hb, hc⟩ := ho hp
  refine ⟨b, off, rfl, hb, fun i c hi => ?_⟩
  rw [List.getElem?_map] at hi
  obtain ⟨p, hp', rfl⟩ := Option.map_eq_some_iff.1 hi
  have g := h3 p (List.mem_of_getElem? hp')
  obtain ⟨wa, wc, hv, -⟩ := id g
  have c0 := hc i p hp' 0 _ rfl
  have c1 := hc i p hp' 1 _ rfl
  have c2 := hc i p hp' 2 _ rfl
  rw [hv] at c2 g
  exact ⟨wa, wc, c0, c1, c2, g⟩

/-! ### Words with their postings -/

structure Tm where
  t : ByteArray
  p : List Pt
/-- The two cells of a word, whose postings lie where the slice says. -/
def encT (p : Tm × Pts) : List Value := [.string p.1.t, sv p.2]
theorem encT_len (p : Tm × Pts) : (encT p).length = 2 := rfl
theorem encT_one (p : Tm × Pts) : ∀ u ∈ encT p, u.oneCell' = true := by
  intro u hu
  simp only [encT, List.mem_cons, List.not_mem_nil, or_false] at hu
  rcases hu with rfl | rfl <;> rfl
/-- The slice value v reads, in w, as the words L with their postings. -/
def Ts (w : World) (v : Value) (L : List Tm) : Prop := ∃ ps : List (Tm × Pts), Kl encT 2 w v ps ∧ ps.map (·.1) = L ∧ ∀ p ∈ ps, Pl w (sv p.2) p.1.p

theorem Ts.nil (w : World) : Ts w (.slice none 0 0) [] := ⟨[], Kl.nil _ _ _, rfl, fun p hp => by cases hp⟩
theorem Ts.below {w w' : World} {v : Value} {L : List Tm} (h : Ts w v L) (hb : Below w.heap.size w w') : Ts w' v L := by
  obtain ⟨ps, h1, h2, h3⟩ := h
  exact ⟨ps, h1.below hb, h2, fun p hp => (h3 p hp).below hb⟩

theorem Ts.open {w : World} {v : Value} {L : List Tm} (h : Ts w v L) :
    ∃ a cap, v = .slice a L.length cap ∧ L.length ≤ cap ∧ cap ≤ 9223372036854775807 ∧ (a = none → cap = 0) ∧
      (0 < L.length → ∃ b off, a = some ⟨b, off, none⟩ ∧ b < w.heap.size ∧ ∀ i c, L[i]? = some c → ∃ wa wc, w.cell? ⟨b, off + i * 2, none⟩ = some (.string c.t) ∧
        w.cell? ⟨b, off + i * 2 + 1, none⟩ = some (.slice wa c.p.length wc) ∧ Pl w (.slice wa c.p.length wc) c.p) := by
  obtain ⟨ps, h1, rfl, h3⟩ := h
  obtain ⟨a, cap, rfl, hl, hm, hn, ho⟩ := h1.open encT_len (by decide)
  rw [List.length_map]
  refine ⟨a, cap, rfl, hl, hm, hn, fun hp => ?_⟩
  obtain ⟨b, off, rfl, hb, hc⟩ := ho hp
  refine ⟨b, off, rfl, hb, fun i c hi => ?_⟩
  rw [List.getElem?_map] at hi
  obtain ⟨p, hp', rfl⟩ := Option.map_eq_some_iff.1 hi
  have g := h3 p (List.mem_of_getElem? hp')
  obtain ⟨wa, wc, hv, -⟩ := id g
  have c0 := hc i p hp' 0 _ rfl
  have c1 := hc i p hp' 1 _ rfl
  rw [hv] at c1 g
  exact ⟨wa, wc, c0, c1, g⟩

/-! ### Segments -/

structure Sg where
  ids : List ByteArray
  keys : List Int
  lens : List Int
  ts : List Tm

/-- The four slices read, in w, as the parts of a segment. -/
def Sv (w : World) (iv kv lv tv : Value) (s : Sg) : Prop := Gl .string w iv s.ids ∧ Sl .i64 w kv s.keys ∧ Sl .i64 w lv s.lens ∧ Ts w tv s.ts
theorem Sv.below {w w' : World} {iv kv lv tv : Value} {s : Sg} (h : Sv w iv kv lv tv s) (hb : Below w.heap.size w w') : Sv w' iv kv lv tv s := ⟨h.1.below hb, h.2.1.below hb, h.2.2.1.below hb, h.2.2.2.below hb⟩
def Sg.none : Sg := ⟨[], [], [], []⟩
theorem Sv.none (w : World) : Sv w (.slice none 0 0) (.slice none 0 0) (.slice none 0 0) (.slice none 0 0) Sg.none := ⟨Gl.nil _ _, Sl.nil _ _, Sl.nil _ _, Ts.nil _⟩

namespace S
/-- The postings of a word, as the walks have them. -/
def pt (q : Int × List Int) : Pt := ⟨q.1, q.2⟩
def term (l : List Cd) (t : ByteArray) : Tm := ⟨t, (posts l t).map pt⟩
/-- The segment of cards. -/
def seg (l : List Cd) : Sg := ⟨l.map (·.id), l.map (·.key), l.map (fun c => (c.w.length : Int)), (words l).map (term l)⟩
end S
end Go.Proofs.Ytfniphaehggcgaa

/-
  Tables, orders, orders turned, one behind the other, and who lives behind tables. Plain mathematics; no program is named here.
-/
namespace Go.Proofs.Ytfniphaehggcgaa
set_option maxRecDepth 100000
namespace R

/-! ### Tables -/

def cnt (l : List Bool) : Nat := l.count true
def tab : Int → List Bool → List Int
  | _, [] => []
  | n, b :: l => (if b = true then n else -1) :: tab (if b = true then n + 1 else n) l
/-- Table. -/
def table (l : List Bool) (n : Int) : List Int := if 0 ≤ n ∧ n ≤ 1100 ∧ l.length ≤ 64 then tab n l else []

theorem tab_len : ∀ (l : List Bool) (n : Int), (tab n l).length = l.length
  | [], _ => rfl
  | b :: l, n => by simp only [tab, List.length_cons, tab_len l]
theorem cnt_le (l : List Bool) : cnt l ≤ l.length := List.count_le_length
theorem tab_app : ∀ (a b : List Bool) (n : Int), tab n (a ++ b) = tab n a ++ tab (n + (cnt a : Int)) b
  | [], b, n => by simp [tab, cnt]
  | x :: a, b, n => by
    have ih := tab_app a b
    cases x with
    | true =>
      simp only [List.cons_append, tab, if_true, ih]
      have : n + 1 + (cnt a : Int) = n + (cnt (true :: a) : Int) := by simp [cnt]; omega
      rw [this]
    | false =>
      have h : ¬ (false = true) := by decide
      simp only [List.cons_append, tab, if_neg h, ih]
      have : (cnt a : Int) = (cnt (false :: a) : Int) := by simp [cnt]
      rw [this]
theorem tab_step {l : List Bool} {k : Nat} {b : Bool} (h : l[k]? = some b) (n : Int) : tab n (l.take (k + 1)) = tab n (l.take k) ++ [if b = true then n + (cnt (l.take k) : Int) else -1] := by
  obtain ⟨hk, rfl⟩ := List.getElem?_eq_some_iff.1 h
  rw [List.take_succ_eq_append_getElem hk, tab_app]
  rfl
theorem cnt_step {l : List Bool} {k : Nat} {b : Bool} (h : l[k]? = some b) : cnt (l.take (k + 1)) = cnt (l.take k) + (if b = true then 1 else 0) := by
  obtain ⟨hk, rfl⟩ := List.getElem?_eq_some_iff.1 h
  rw [List.take_succ_eq_append_getElem hk]
  unfold cnt
  rw [List.count_append]
  cases l[k] <;> simp
/-- What the table has at a place. -/
theorem tab_at {l : List Bool} {k : Nat} {b : Bool} (h : l[k]? = some b) (n : Int) : (tab n l)[k]? = some (if b = true then n + (cnt (l.take k) : Int) else -1) := by
  obtain ⟨hk, rfl⟩ := List.getElem?_eq_some_iff.1 h
  have e : l = l.take k ++ (l[k] :: l.drop (k + 1)) := by rw [← List.drop_eq_getElem_cons hk, List.take_append_drop]
  have hl : (tab n (l.take k)).length = k := by rw [tab_len, List.length_take]; omega
  conv => lhs; rw [e]
  rw [tab_app, List.getElem?_append_right (by omega), hl, Nat.sub_self]
  rfl

/-! ### Orders -/

/-- Each number below the length is in p. -/
def Ord (p : List Int) : Prop := ∀ i : Nat, i < p.length → (i : Int) ∈ p
def nums (n : Nat) : List Int := (List.range n).map fun i : Nat => (i : Int)
theorem nums_len (n : Nat) : (nums n).length = n := by simp [nums]
theorem nums_mem {n : Nat} {x : Int} : x ∈ nums n ↔ 0 ≤ x ∧ x < n := by
  unfold nums
  simp only [List.mem_map, List.mem_range]
  constructor
  · rintro ⟨i, hi, rfl⟩; omega
  · intro h; exact ⟨x.toNat, by omega, by omega⟩
theorem nums_nodup (n : Nat) : (nums n).Nodup := by
  unfold nums
  have := List.nodup_range (n := n)
  rw [List.nodup_iff_pairwise_ne] at this ⊢
  rw [List.pairwise_map]
  exact this.imp fun h e => h (by omega)
theorem nums_at {n i : Nat} (h : i < n) : (nums n)[i]? = some (i : Int) := by simp [nums, h]

theorem perm_of {l : List Int} : ∀ {p : List Int}, l.Nodup → (∀ x ∈ l, x ∈ p) → p.length ≤ l.length → p.Perm l := by
  induction l with
  | nil =>
    intro p _ _ h
    have : p = [] := List.eq_nil_of_length_eq_zero (by simpa using h)
    subst this
    exact List.Perm.refl _
  | cons x l ih =>
    intro p hn hs hl
    obtain ⟨h1, h2⟩ := List.nodup_cons.1 hn
    have hx := hs x (List.mem_cons_self ..)
    have hp := List.perm_cons_erase hx
    refine hp.trans (List.Perm.cons x (ih h2 (fun y hy => ?_) ?_))
    · have hne : y ≠ x := fun e => h1 (by rw [← e]; exact hy)
      exact (List.mem_erase_of_ne hne).2 (hs y (List.mem_cons_of_mem _ hy))
    · rw [List.length_erase_of_mem hx]
      simp only [List.length_cons] at hl
      omega
theorem Ord.perm {p : List Int} (h : Ord p) : p.Perm (nums p.length) :=
  perm_of (nums_nodup _) (fun x hx => by
    obtain ⟨h0, h1⟩ := nums_mem.1 hx
    have := h x.toNat (by omega)
    rwa [show ((x.toNat : Nat) : Int) = x by omega] at this) (by rw [nums_len]; exact Nat.le_refl _)
theorem Ord.of_perm {p : List Int} {n : Nat} (h : p.Perm (nums n)) : p.length = n ∧ Ord p := by
  have hl : p.length = n := by rw [h.length_eq, nums_len]
  refine ⟨hl, fun i hi => ?_⟩
  rw [h.mem_iff]
  exact nums_mem.2 (by omega)
theorem Ord.nodup {p : List Int} (h : Ord p) : p.Nodup := h.perm.nodup_iff.2 (nums_nodup _)
theorem Ord.bd {p : List Int} (h : Ord p) {x : Int} (hx : x ∈ p) : 0 ≤ x ∧ x < p.length := nums_mem.1 (h.perm.mem_iff.1 hx)

/-- Where a number stands. -/
def at' (p : List Int) (i : Int) : Nat := p.idxOf i
theorem at_get {p : List Int} {i : Int} (h : i ∈ p) : p[at' p i]? = some i := by
  have hl := List.idxOf_lt_length_iff.2 h
  rw [at', List.getElem?_eq_getElem hl, List.getElem_idxOf hl]
theorem at_is {p : List Int} (hn : p.Nodup) {k : Nat} {i : Int} (h : p[k]? = some i) : at' p i = k := by
  obtain ⟨hk, rfl⟩ := List.getElem?_eq_some_iff.1 h
  have h2 := at_get (List.getElem_mem hk)
  obtain ⟨hk2, e2⟩ := List.getElem?_eq_some_iff.1 h2
  rw [List.nodup_iff_pairwise_ne] at hn
  rcases Nat.lt_trichotomy (at' p p[k]) k with h3 | h3 | h3
  · exact absurd e2 (List.pairwise_iff_getElem.1 hn _ _ hk2 hk h3)
  · exact h3
  · exact absurd e2.symm (List.pairwise_iff_getElem.1 hn _ _ hk hk2 h3)

def trn (p : List Int) : List Int := (nums p.length).map fun i => (at' p i : Int)
theorem trn_len (p : List Int) : (trn p).length = p.length := by simp [trn, nums_len]
theorem trn_at {p : List Int} {i : Nat} (h : i < p.length) : (trn p)[i]? = some (at' p (i : Int) : Int) := by
  unfold trn
  rw [List.getElem?_map, nums_at h]
  rfl
/-- What an order has where the turned one tells. -/
theorem trn_back {p : List Int} (hp : Ord p) {i : Nat} (h : i < p.length) : ∃ k : Nat, (trn p)[i]? = some (k : Int) ∧ k < p.length ∧ p[k]? = some (i : Int) :=
  ⟨_, trn_at h, List.idxOf_lt_length_iff.2 (hp i h), at_get (hp i h)⟩
/-- What the turned one has where an order tells. -/
theorem trn_fore {p : List Int} (hp : Ord p) {k : Nat} {i : Int} (h : p[k]? = some i) : (trn p)[i.toNat]? = some (k : Int) := by
  have hb := hp.bd (List.mem_of_getElem? h)
  rw [trn_at (by omega), show ((i.toNat : Nat) : Int) = i by omega, at_is hp.nodup h]
theorem trn_ord {p : List Int} (hp : Ord p) : Ord (trn p) := by
  intro i hi
  rw [trn_len] at hi
  exact List.mem_of_getElem? (trn_fore hp (List.getElem?_eq_getElem hi))
theorem trn_twice {p : List Int} (hp : Ord p) : trn (trn p) = p := by
  refine List.ext_getElem (by rw [trn_len, trn_len]) fun i h1 h2 => ?_
  have h3 := trn_fore hp (List.getElem?_eq_getElem h2)
  have hb := hp.bd (List.getElem_mem h2)
  have h4 := trn_fore (trn_ord hp) h3
  rw [Int.toNat_natCast, List.getElem?_eq_getElem h1] at h4
  have := Option.some.inj h4
  omega
/-- Turn. -/
def Good (p : List Int) : Prop := p.length ≤ 1100 ∧ Ord p
theorem Good.turn {p : List Int} (h : Good p) : Good (trn p) := ⟨by rw [trn_len]; exact h.1, trn_ord h.2⟩

/-! ### One behind the other -/

def thn1 (p : List Int) (x : Int) : Int := if 0 ≤ x ∧ x < (p.length : Int) then p.getD x.toNat 0 else -1
def thn (t p : List Int) : List Int := t.map (thn1 p)
theorem thn_len (t p : List Int) : (thn t p).length = t.length := by simp [thn]
theorem thn_step {t p : List Int} {k : Nat} {x : Int} (h : t[k]? = some x) : thn (t.take (k + 1)) p = thn (t.take k) p ++ [thn1 p x] := by
  obtain ⟨hk, rfl⟩ := List.getElem?_eq_some_iff.1 h
  unfold thn
  rw [List.take_succ_eq_append_getElem hk, List.map_append]
  rfl
theorem thn_own {p : List Int} (hp : Ord p) : thn p (trn p) = nums p.length := by
  refine List.ext_getElem (by rw [thn_len, nums_len]) fun i h1 h2 => ?_
  rw [thn_len] at h1
  have hb := hp.bd (List.getElem_mem h1)
  have h3 := trn_fore hp (List.getElem?_eq_getElem h1)
  have e : (thn p (trn p))[i] = thn1 (trn p) p[i] := by simp [thn]
  have e2 : (nums p.length)[i] = (i : Int) := by simp [nums]
  rw [e, e2, thn1, if_pos (by rw [trn_len]; exact hb)]
  simp [List.getD, h3]
theorem thn_own2 {p : List Int} (hp : Ord p) : thn (trn p) p = nums p.length := by
  have h := thn_own (trn_ord hp)
  rw [trn_twice hp, trn_len] at h
  exact h

/-! ### Who lives -/

/-- Does some document of one table get d that lived and does not? -/
def hit (d : Int) : List Int → List Bool → List Bool → Bool
  | x :: t, a :: was, b :: now => (decide (x = d) && a && !b) || hit d t was now
  | _, _, _ => false
def hits (d : Int) : List (List Int) → List (List Bool) → List (List Bool) → Bool
  | t :: ts, a :: was, b :: now => hit d t a b || hits d ts was now
  | _, _, _ => false
def fitL : List (List Int) → List (List Bool) → List (List Bool) → Bool
  | t :: ts, a :: was, b :: now => decide (a.length = t.length) && decide (b.length = t.length) && fitL ts was now
  | [], [], [] => true
  | _, _, _ => false
/-- Carry. -/
def carry (n : Int) (ts : List (List Int)) (was now : List (List Bool)) : List Bool :=
  if 0 ≤ n ∧ n ≤ 64 ∧ fitL ts was now = true then (nums n.toNat).map fun d => !hits d ts was now else []

theorem hit_same (d : Int) : ∀ (t : List Int) (was : List Bool), hit d t was was = false
  | [], _ => by simp [hit]
  | _ :: _, [] => by simp [hit]
  | x :: t, a :: was => by
    rw [hit, hit_same d t was]
    cases a <;> simp
theorem hit_less (d : Int) : ∀ (t : List Int) (was now : List Bool) (k : Nat), hit d t was now = true → hit d t was (now.set k false) = true
  | [], _, _, _, h => by simp [hit] at h
  | _ :: _, [], _, _, h => by simp [hit] at h
  | _ :: _, _ :: _, [], _, h => by simp [hit] at h
  | x :: t, a :: was, b :: now, k, h => by
    cases k with
    | zero =>
      rw [List.set_cons_zero, hit]
      rw [hit] at h
      cases b with
      | false => exact h
      | true =>
        simp only [Bool.not_true, Bool.and_false, Bool.false_or] at h
        rw [h, Bool.or_true]
    | succ k =>
      rw [List.set_cons_succ, hit]
      rw [hit, Bool.or_eq_true] at h
      rw [Bool.or_eq_true]
      rcases h with h | h
      · exact .inl h
      · exact .inr (hit_less d t was now k h)
theorem carry_len {n : Int} {ts : List (List Int)} {was now : List (List Bool)} (h0 : 0 ≤ n) (h1 : n ≤ 64) (hf : fitL ts was now = true) : ((carry n ts was now).length : Int) = n := by
  unfold carry
  rw [if_pos ⟨h0, h1, hf⟩, List.length_map, nums_len]
  omega

/-! ### Keys and ids put in order -/

/-- Is the one at place a ahead of the one at place b: by key, by id, by place? -/
def lt (keys : List Int) (ids : List ByteArray) (a b : Nat) : Bool :=
  decide (keys.getD a 0 < keys.getD b 0) || (decide (keys.getD a 0 = keys.getD b 0) && (K.lt (ids.getD a ⟨#[]⟩) (ids.getD b ⟨#[]⟩) || (decide (ids.getD a ⟨#[]⟩ = ids.getD b ⟨#[]⟩) && decide (a < b))))
theorem lt_iff {keys : List Int} {ids : List ByteArray} {a b : Nat} : lt keys ids a b = true ↔ keys.getD a 0 < keys.getD b 0 ∨ (keys.getD a 0 = keys.getD b 0 ∧ (K.lt (ids.getD a ⟨#[]⟩) (ids.getD b ⟨#[]⟩) = true ∨ (ids.getD a ⟨#[]⟩ = ids.getD b ⟨#[]⟩ ∧ a < b))) := by simp [lt]
theorem lt_irrefl (keys : List Int) (ids : List ByteArray) (a : Nat) : lt keys ids a a = false := by
  cases h : lt keys ids a a with
  | false => rfl
  | true =>
    rw [lt_iff] at h
    rcases h with h | ⟨-, h | ⟨-, h⟩⟩
    · omega
    · rw [K.lt_irrefl] at h; cases h
    · omega
theorem lt_trans {keys : List Int} {ids : List ByteArray} {a b c : Nat} (h : lt keys ids a b = true) (k : lt keys ids b c = true) : lt keys ids a c = true := by
  rw [lt_iff] at *
  rcases h with h | ⟨e1, h⟩
  · rcases k with k | ⟨e2, -⟩
    · exact .inl (by omega)
    · exact .inl (by omega)
  · rcases k with k | ⟨e2, k⟩
    · exact .inl (by omega)
    · refine .inr ⟨by omega, ?_⟩
      rcases h with h | ⟨f1, h⟩
      · rcases k with k | ⟨f2, -⟩
        · exact .inl (K.lt_trans h k)
        · rw [← f2]; exact .inl h
      · rcases k with k | ⟨f2, k⟩
        · rw [f1]; exact .inl k
        · exact .inr ⟨f1.trans f2, by omega⟩
theorem lt_tri {keys : List Int} {ids : List ByteArray} {a b : Nat} (h : lt keys ids a b = false) (k : lt keys ids b a = false) : a = b := by
  have h1 : ¬ lt keys ids a b = true := by rw [h]; decide
  have k1 : ¬ lt keys ids b a = true := by rw [k]; decide
  rw [lt_iff] at h1 k1
  have e : keys.getD a 0 = keys.getD b 0 := by omega
  have f : ids.getD a ⟨#[]⟩ = ids.getD b ⟨#[]⟩ := K.lt_tri (by
    cases hb : K.lt (ids.getD a ⟨#[]⟩) (ids.getD b ⟨#[]⟩) with
    | false => rfl
    | true => exact absurd (.inr ⟨e, .inl hb⟩) h1) (by
    cases hb : K.lt (ids.getD b ⟨#[]⟩) (ids.getD a ⟨#[]⟩) with
    | false => rfl
    | true => exact absurd (.inr ⟨e.symm, .inl hb⟩) k1)
  rcases Nat.lt_trichotomy a b with h3 | h3 | h3
  · exact absurd (.inr ⟨e, .inr ⟨f, h3⟩⟩) h1
  · exact h3
  · exact absurd (.inr ⟨e.symm, .inr ⟨f.symm, h3⟩⟩) k1

/-- Each ahead of the next ones. -/
def Up (keys : List Int) (ids : List ByteArray) (l : List Nat) : Prop := l.Pairwise fun a b => lt keys ids a b = true
theorem up_ext {keys : List Int} {ids : List ByteArray} : ∀ {l m : List Nat}, Up keys ids l → Up keys ids m → l.Perm m → l = m
  | [], m, _, _, p => (List.Perm.nil_eq p)
  | a :: l, [], _, _, p => by have := p.length_eq; simp at this
  | a :: l, b :: m, hl, hm, p => by
    obtain ⟨l1, l2⟩ := List.pairwise_cons.1 hl
    obtain ⟨m1, m2⟩ := List.pairwise_cons.1 hm
    have e : a = b := by
      rcases List.mem_cons.1 (p.mem_iff.1 (List.mem_cons_self ..)) with h | h
      · exact h
      · rcases List.mem_cons.1 (p.mem_iff.2 (List.mem_cons_self ..)) with k | k
        · exact k.symm
        · have := lt_trans (m1 a h) (l1 b k)
          rw [lt_irrefl] at this
          cases this
    subst e
    rw [up_ext l2 m2 (List.Perm.cons_inv p)]
/-- The order of n places: by what is there just once. -/
def Sorted (keys : List Int) (ids : List ByteArray) (n : Nat) (l : List Nat) : Prop := Up keys ids l ∧ l.Perm (List.range n)
theorem Sorted.uniq {keys : List Int} {ids : List ByteArray} {n : Nat} {l m : List Nat} (h : Sorted keys ids n l) (k : Sorted keys ids n m) : l = m := up_ext h.1 k.1 (h.2.trans k.2.symm)
theorem Sorted.ord {keys : List Int} {ids : List ByteArray} {n : Nat} {l : List Nat} (h : Sorted keys ids n l) : (l.map fun i : Nat => (i : Int)).length = n ∧ Ord (l.map fun i : Nat => (i : Int)) := Ord.of_perm (h.2.map _)

/-- A place put in among those that are in order, which are all less: as the document has it. -/
def lek (keys : List Int) (ids : List ByteArray) (i x : Nat) : Bool := decide (keys.getD i 0 < keys.getD x 0) || (decide (keys.getD i 0 = keys.getD x 0) && K.lt (ids.getD i ⟨#[]⟩) (ids.getD x ⟨#[]⟩))
theorem lek_lt {keys : List Int} {ids : List ByteArray} {i x : Nat} (h : x < i) : lek keys ids i x = !lt keys ids x i := by
  cases hx : lt keys ids x i with
  | true =>
    rw [Bool.not_true]
    cases hk : lek keys ids i x with
    | false => rfl
    | true =>
      have : lt keys ids i x = true := by
        rw [lt_iff]
        simp only [lek, Bool.or_eq_true, Bool.and_eq_true, decide_eq_true_eq] at hk
        rcases hk with hk | ⟨e, hk⟩
        · exact .inl hk
        · exact .inr ⟨e, .inl hk⟩
      have := lt_trans hx this
      rw [lt_irrefl] at this
      cases this
  | false =>
    rw [Bool.not_false]
    cases hk : lek keys ids i x with
    | true => rfl
    | false =>
      exfalso
      have h1 : lt keys ids i x = false := by
        cases hi : lt keys ids i x with
        | false => rfl
        | true =>
          rw [lt_iff] at hi
          have hk' : ¬ lek keys ids i x = true := by rw [hk]; decide
          simp only [lek, Bool.or_eq_true, Bool.and_eq_true, decide_eq_true_eq] at hk'
          rcases hi with hi | ⟨e, hi | ⟨-, hi⟩⟩
          · exact absurd (.inl hi) hk'
          · exact absurd (.inr ⟨e, hi⟩) hk'
          · omega
      have := lt_tri hx h1
      omega
def ins (keys : List Int) (ids : List ByteArray) (l : List Nat) (i : Nat) : List Nat := l.takeWhile (fun x => !lek keys ids i x) ++ i :: l.dropWhile (fun x => !lek keys ids i x)
def ord : (keys : List Int) → (ids : List ByteArray) → Nat → List Nat
  | _, _, 0 => []
  | keys, ids, n + 1 => ins keys ids (ord keys ids n) n
theorem ins_sorted {keys : List Int} {ids : List ByteArray} {n : Nat} {l : List Nat} (h : Sorted keys ids n l) : Sorted keys ids (n + 1) (ins keys ids l n) := by
  have hlt : ∀ x ∈ l, x < n := fun x hx => by simpa using h.2.mem_iff.1 hx
  have he : ∀ x ∈ l, (!lek keys ids n x) = lt keys ids x n := fun x hx => by rw [lek_lt (hlt x hx), Bool.not_not]
  have ht : ∀ (m : List Nat), (∀ x ∈ m, x ∈ l) → m.takeWhile (fun x => !lek keys ids n x) = m.takeWhile (fun x => lt keys ids x n) ∧ m.dropWhile (fun x => !lek keys ids n x) = m.dropWhile (fun x => lt keys ids x n) := by
    intro m
    induction m with
    | nil => intro _; exact ⟨rfl, rfl⟩
    | cons a m ih =>
      intro hm
      obtain ⟨i1, i2⟩ := ih fun x hx => hm x (List.mem_cons_of_mem _ hx)
      have e := he a (hm a (List.mem_cons_self ..))
      simp only [List.takeWhile_cons, List.dropWhile_cons, e, i1, i2, and_self]
  obtain ⟨t1, t2⟩ := ht l fun x hx => hx
  have hd : ∀ (m : List Nat), Up keys ids m → ∀ x ∈ m.dropWhile (fun x => lt keys ids x n), lt keys ids x n = false := by
    intro m
    induction m with
    | nil => intro _ x hx; cases hx
    | cons y m ih =>
      intro hu x hx
      obtain ⟨u1, u2⟩ := List.pairwise_cons.1 hu
      cases hy : lt keys ids y n with
      | true =>
        rw [List.dropWhile_cons, if_pos hy] at hx
        exact ih u2 x hx
      | false =>
        rw [List.dropWhile_cons, if_neg (by rw [hy]; decide)] at hx
        rcases List.mem_cons.1 hx with rfl | hx
        · exact hy
        · cases hb : lt keys ids x n with
          | false => rfl
          | true => have := lt_trans (u1 x hx) hb; rw [hy] at this; cases this
  have htk : ∀ (m : List Nat), ∀ x ∈ m.takeWhile (fun x => lt keys ids x n), lt keys ids x n = true := by
    intro m
    induction m with
    | nil => intro x hx; cases hx
    | cons y m ih =>
      intro x hx
      cases hy : lt keys ids y n with
      | true =>
        rw [List.takeWhile_cons, if_pos hy] at hx
        rcases List.mem_cons.1 hx with rfl | hx
        · exact hy
        · exact ih x hx
      | false =>
        rw [List.takeWhile_cons, if_neg (by rw [hy]; decide)] at hx
        cases hx
  have hgt : ∀ x ∈ l.dropWhile (fun x => lt keys ids x n), lt keys ids n x = true := fun x hx => by
    cases hb : lt keys ids n x with
    | true => rfl
    | false =>
      have := lt_tri (hd l h.1 x hx) hb
      have := hlt x ((List.dropWhile_sublist _).subset hx)
      omega
  unfold ins
  rw [t1, t2]
  refine ⟨List.pairwise_append.2 ⟨h.1.sublist (List.takeWhile_sublist _), List.pairwise_cons.2 ⟨hgt, h.1.sublist (List.dropWhile_sublist _)⟩, fun a ha b hb => ?_⟩, ?_⟩
  · have h1 := htk l a ha
    rcases List.mem_cons.1 hb with rfl | hb
    · exact h1
    · exact lt_trans h1 (hgt b hb)
  · refine List.perm_middle.trans ?_
    rw [List.takeWhile_append_dropWhile]
    rw [List.range_succ]
    exact (h.2.cons n).trans (List.perm_append_singleton n _).symm
theorem ord_sorted (keys : List Int) (ids : List ByteArray) : ∀ n, Sorted keys ids n (ord keys ids n)
  | 0 => ⟨List.Pairwise.nil, List.Perm.refl _⟩
  | n + 1 => ins_sorted (ord_sorted keys ids n)
/-- Order. -/
def order (keys : List Int) (ids : List ByteArray) : List Int := if keys.length = ids.length ∧ keys.length ≤ 1100 then (ord keys ids keys.length).map fun i : Nat => (i : Int) else []
end R
end Go.Proofs.Ytfniphaehggcgaa

/-
  Who lives behind tables, step by step. Plain mathematics; no program is named here.
-/
namespace Go.Proofs.Ytfniphaehggcgaa
set_option maxRecDepth 100000
namespace R

/-- As many lists as tables, each of as many. -/
def alk : List (List Int) → List (List Bool) → Bool
  | [], [] => true
  | t :: ts, l :: ls => decide (t.length = l.length) && alk ts ls
  | _, _ => false
theorem alk_iff : ∀ {ts : List (List Int)} {ls : List (List Bool)}, alk ts ls = true ↔ ts.length = ls.length ∧ ∀ (i : Nat) t l, ts[i]? = some t → ls[i]? = some l → t.length = l.length
  | [], [] => by simp [alk]
  | [], _ :: _ => by simp [alk]
  | _ :: _, [] => by simp [alk]
  | t :: ts, l :: ls => by
    have ih := alk_iff (ts := ts) (ls := ls)
    simp only [alk, Bool.and_eq_true, decide_eq_true_eq, ih, List.length_cons]
    constructor
    · rintro ⟨h1, h2, h3⟩
      refine ⟨by omega, fun i t' l' ht hl => ?_⟩
      cases i with
      | zero => simp at ht hl; subst ht hl; exact h1
      | succ i => exact h3 i t' l' (by simpa using ht) (by simpa using hl)
    · rintro ⟨h1, h2⟩
      exact ⟨h2 0 t l rfl rfl, by omega, fun i t' l' ht hl => h2 (i + 1) t' l' (by simpa using ht) (by simpa using hl)⟩
theorem fit_alk : ∀ (ts : List (List Int)) (was now : List (List Bool)), fitL ts was now = (alk ts was && alk ts now)
  | [], [], [] => rfl
  | [], [], _ :: _ => rfl
  | [], _ :: _, [] => rfl
  | [], _ :: _, _ :: _ => rfl
  | _ :: _, [], [] => rfl
  | t :: ts, [], b :: now => by simp [fitL, alk]
  | t :: ts, a :: was, [] => by simp [fitL, alk]
  | t :: ts, a :: was, b :: now => by
    simp only [fitL, alk, fit_alk ts was now]
    rw [show decide (a.length = t.length) = decide (t.length = a.length) by simp [eq_comm], show decide (b.length = t.length) = decide (t.length = b.length) by simp [eq_comm]]
    cases decide (t.length = a.length) <;> cases decide (t.length = b.length) <;> cases alk ts was <;> cases alk ts now <;> rfl

section
variable (ts : List (List Int)) (was now : List (List Bool))
/-- Document d of table i gets j, lived, and does not. -/
def Hit (j i d : Nat) : Prop := ∃ t a b, ts[i]? = some t ∧ was[i]? = some a ∧ now[i]? = some b ∧ t[d]? = some (j : Int) ∧ a[d]? = some true ∧ b[d]? = some false
/-- One of the documents ahead of document d of table i does so. -/
def Had (j i d : Nat) : Prop := ∃ i' d', (i' < i ∨ (i' = i ∧ d' < d)) ∧ Hit ts was now j i' d'
end
variable {ts : List (List Int)} {was now : List (List Bool)}
theorem had_start (j : Nat) : ¬ Had ts was now j 0 0 := by rintro ⟨i', d', h | ⟨-, h⟩, -⟩ <;> omega
theorem had_doc (j i d : Nat) : Had ts was now j i (d + 1) ↔ Had ts was now j i d ∨ Hit ts was now j i d := by
  constructor
  · rintro ⟨i', d', h, hh⟩
    by_cases e : i' = i ∧ d' = d
    · obtain ⟨rfl, rfl⟩ := e
      exact .inr hh
    · exact .inl ⟨i', d', by omega, hh⟩
  · rintro (⟨i', d', h, hh⟩ | hh)
    · exact ⟨i', d', by omega, hh⟩
    · exact ⟨i, d, by omega, hh⟩
theorem had_table {j i : Nat} {t : List Int} (ht : ts[i]? = some t) : Had ts was now j (i + 1) 0 ↔ Had ts was now j i t.length := by
  constructor
  · rintro ⟨i', d', h, hh⟩
    by_cases e : i' = i
    · subst e
      obtain ⟨t', a, b, h1, h2, h3, h4, h5, h6⟩ := id hh
      rw [ht] at h1
      cases h1
      exact ⟨i', d', .inr ⟨rfl, (List.getElem?_eq_some_iff.1 h4).1⟩, hh⟩
    · exact ⟨i', d', by omega, hh⟩
  · rintro ⟨i', d', h, hh⟩
    exact ⟨i', d', by omega, hh⟩
theorem had_all {j i : Nat} (hi : ts.length ≤ i) : Had ts was now j i 0 ↔ ∃ i' d', Hit ts was now j i' d' := by
  constructor
  · rintro ⟨i', d', h, hh⟩
    exact ⟨i', d', hh⟩
  · rintro ⟨i', d', hh⟩
    obtain ⟨t', a, b, h1, -⟩ := id hh
    have := (List.getElem?_eq_some_iff.1 h1).1
    exact ⟨i', d', by omega, hh⟩
theorem hit_of {j i d : Nat} {t : List Int} {a b : List Bool} {x : Int} {p q : Bool} (h1 : ts[i]? = some t) (h2 : was[i]? = some a) (h3 : now[i]? = some b) (h4 : t[d]? = some x) (h5 : a[d]? = some p) (h6 : b[d]? = some q) : Hit ts was now j i d ↔ x = (j : Int) ∧ p = true ∧ q = false := by
  constructor
  · rintro ⟨t', a', b', g1, g2, g3, g4, g5, g6⟩
    rw [h1] at g1; cases g1
    rw [h2] at g2; cases g2
    rw [h3] at g3; cases g3
    rw [h4] at g4
    rw [h5] at g5
    rw [h6] at g6
    exact ⟨Option.some.inj g4, Option.some.inj g5, Option.some.inj g6⟩
  · rintro ⟨rfl, rfl, rfl⟩
    exact ⟨t, a, b, h1, h2, h3, h4, h5, h6⟩

theorem hit_iff : ∀ {j : Nat} {t : List Int} {a b : List Bool}, hit (j : Int) t a b = true ↔ ∃ d : Nat, t[d]? = some (j : Int) ∧ a[d]? = some true ∧ b[d]? = some false
  | j, [], _, _ => by simp [hit]
  | j, _ :: _, [], _ => by simp [hit]
  | j, _ :: _, _ :: _, [] => by simp [hit]
  | j, x :: t, p :: a, q :: b => by
    have ih := hit_iff (j := j) (t := t) (a := a) (b := b)
    rw [hit, Bool.or_eq_true, ih]
    constructor
    · rintro (h | ⟨d, h⟩)
      · refine ⟨0, ?_⟩
        simp only [Bool.and_eq_true, decide_eq_true_eq, Bool.not_eq_true'] at h
        simp [h.1.1, h.1.2, h.2]
      · exact ⟨d + 1, by simpa using h⟩
    · rintro ⟨d, h1, h2, h3⟩
      cases d with
      | zero =>
        left
        simp at h1 h2 h3
        simp [h1, h2, h3]
      | succ d => exact .inr ⟨d, by simpa using h1, by simpa using h2, by simpa using h3⟩
theorem hits_iff : ∀ {j : Nat} {ts : List (List Int)} {was now : List (List Bool)}, hits (j : Int) ts was now = true ↔ ∃ i d, Hit ts was now j i d
  | j, [], _, _ => by simp [hits, Hit]
  | j, _ :: _, [], _ => by simp [hits, Hit]
  | j, _ :: _, _ :: _, [] => by simp [hits, Hit]
  | j, t :: ts, a :: was, b :: now => by
    have ih := hits_iff (j := j) (ts := ts) (was := was) (now := now)
    rw [hits, Bool.or_eq_true, ih, hit_iff]
    constructor
    · rintro (⟨d, h1, h2, h3⟩ | ⟨i, d, h⟩)
      · exact ⟨0, d, t, a, b, rfl, rfl, rfl, h1, h2, h3⟩
      · obtain ⟨t', a', b', h⟩ := h
        exact ⟨i + 1, d, t', a', b', by simpa using h⟩
    · rintro ⟨i, d, t', a', b', g1, g2, g3, h1, h2, h3⟩
      cases i with
      | zero =>
        simp at g1 g2 g3
        subst g1 g2 g3
        exact .inl ⟨d, h1, h2, h3⟩
      | succ i => exact .inr ⟨i, d, t', a', b', by simpa using g1, by simpa using g2, by simpa using g3, h1, h2, h3⟩

/-- What the list of m documents holds ahead of document d of table i. -/
def Cst (ts : List (List Int)) (was now : List (List Bool)) (m i d : Nat) (L : List Bool) : Prop :=
  L.length = m ∧ ∀ j, j < m → ∃ c, L[j]? = some c ∧ (c = false ↔ Had ts was now j i d)
theorem Cst.start (m : Nat) : Cst ts was now m 0 0 ((List.range m).map fun _ => true) := by
  refine ⟨by simp, fun j hj => ⟨true, by simp [hj], ?_⟩⟩
  simp [had_start]
theorem Cst.table {m i : Nat} {L : List Bool} {t : List Int} (s : Cst ts was now m i t.length L) (ht : ts[i]? = some t) : Cst ts was now m (i + 1) 0 L :=
  ⟨s.1, fun j hj => by obtain ⟨c, h1, h2⟩ := s.2 j hj; exact ⟨c, h1, h2.trans (had_table ht).symm⟩⟩
section
variable {m i d : Nat} {L : List Bool} {t : List Int} {a b : List Bool} {x : Int} {p q : Bool}
theorem Cst.skip (s : Cst ts was now m i d L) (h1 : ts[i]? = some t) (h2 : was[i]? = some a) (h3 : now[i]? = some b) (h4 : t[d]? = some x) (h5 : a[d]? = some p) (h6 : b[d]? = some q) (h : ¬ (0 ≤ x ∧ x < (m : Int)) ∨ (p && !q) = false) : Cst ts was now m i (d + 1) L := by
  refine ⟨s.1, fun j hj => ?_⟩
  obtain ⟨c, g1, g2⟩ := s.2 j hj
  refine ⟨c, g1, ?_⟩
  rw [had_doc, g2]
  have : ¬ Hit ts was now j i d := by
    rw [hit_of h1 h2 h3 h4 h5 h6]
    rintro ⟨e1, e2, e3⟩
    rcases h with h | h
    · omega
    · rw [e2, e3] at h
      cases h
  simp [this]
theorem Cst.kill (s : Cst ts was now m i d L) (h1 : ts[i]? = some t) (h2 : was[i]? = some a) (h3 : now[i]? = some b) (k : Nat) (h4 : t[d]? = some (k : Int)) (h5 : a[d]? = some p) (h6 : b[d]? = some q) (h : (p && !q) = true) (hk : k < m) : Cst ts was now m i (d + 1) (L.set k false) := by
  refine ⟨by rw [List.length_set]; exact s.1, fun j hj => ?_⟩
  have hpq : p = true ∧ q = false := by simpa using h
  by_cases e : k = j
  · subst e
    refine ⟨false, List.getElem?_set_self (by rw [s.1]; exact hk), ?_⟩
    rw [had_doc, hit_of h1 h2 h3 h4 h5 h6]
    simp [hpq]
  · obtain ⟨c, g1, g2⟩ := s.2 j hj
    refine ⟨c, by rw [List.getElem?_set_ne e]; exact g1, ?_⟩
    rw [had_doc, g2, hit_of h1 h2 h3 h4 h5 h6]
    have : ¬ (k : Int) = (j : Int) := by omega
    simp [this]
end
theorem Cst.done {m i : Nat} {L : List Bool} (s : Cst ts was now m i 0 L) (hi : ts.length ≤ i) : L = (nums m).map fun d => !hits d ts was now := by
  apply List.ext_getElem?
  intro j
  by_cases hj : j < m
  · obtain ⟨c, g1, g2⟩ := s.2 j hj
    rw [had_all hi, ← hits_iff] at g2
    rw [g1, List.getElem?_map, nums_at hj]
    simp only [Option.map_some, Option.some.injEq]
    cases c with
    | false => rw [g2.1 rfl]; rfl
    | true =>
      cases h : hits (j : Int) ts was now with
      | false => rfl
      | true => have := g2.2 h; cases this
  · rw [List.getElem?_eq_none (by have := s.1; omega), List.getElem?_eq_none (by simp [nums_len]; omega)]

/-- What the document holds of one document j. -/
def Dst (ts : List (List Int)) (was now : List (List Bool)) (j i d : Nat) (c : Bool) : Prop := c = false ↔ Had ts was now j i d
theorem Dst.start (j : Nat) : Dst ts was now j 0 0 true := by simp [Dst, had_start]
theorem Dst.table {j i : Nat} {c : Bool} {t : List Int} (s : Dst ts was now j i t.length c) (ht : ts[i]? = some t) : Dst ts was now j (i + 1) 0 c := s.trans (had_table ht).symm
theorem Dst.doc {j i d : Nat} {c : Bool} {t : List Int} {a b : List Bool} {x : Int} {p q : Bool} (s : Dst ts was now j i d c) (h1 : ts[i]? = some t) (h2 : was[i]? = some a) (h3 : now[i]? = some b) (h4 : t[d]? = some x) (h5 : a[d]? = some p) (h6 : b[d]? = some q) : Dst ts was now j i (d + 1) (if x = (j : Int) ∧ p = true ∧ q = false then false else c) := by
  unfold Dst at *
  rw [had_doc, hit_of h1 h2 h3 h4 h5 h6]
  by_cases h : x = (j : Int) ∧ p = true ∧ q = false
  · rw [if_pos h]
    exact ⟨fun _ => .inr h, fun _ => rfl⟩
  · rw [if_neg h, s]
    simp [h]
theorem Dst.done {j i : Nat} {c : Bool} (s : Dst ts was now j i 0 c) (hi : ts.length ≤ i) : c = !hits (j : Int) ts was now := by
  unfold Dst at s
  rw [had_all hi, ← hits_iff] at s
  cases c with
  | false => rw [s.1 rfl]; rfl
  | true =>
    cases h : hits (j : Int) ts was now with
    | false => rfl
    | true => have := s.2 h; cases this
theorem carry_in {n : Nat} (hn : n ≤ 64) (h1 : alk ts was = true) (h2 : alk ts now = true) : carry (n : Int) ts was now = (nums n).map fun d => !hits d ts was now := by
  unfold carry
  rw [if_pos ⟨by omega, by omega, by rw [fit_alk, h1, h2]; rfl⟩, Int.toNat_natCast]
theorem carry_out {n : Int} (h : n < 0 ∨ 64 < n ∨ alk ts was = false ∨ alk ts now = false) : carry n ts was now = [] := by
  unfold carry
  rw [if_neg]
  rintro ⟨h1, h2, h3⟩
  rw [fit_alk, Bool.and_eq_true] at h3
  rcases h with h | h | h | h
  · omega
  · omega
  · rw [h] at h3; cases h3.1
  · rw [h] at h3; cases h3.2
end R
end Go.Proofs.Ytfniphaehggcgaa
