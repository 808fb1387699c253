/-
  Texts put together: Ord7, Plain7, Plain8, KBase8, Clone8, May7, Search7, Plain13, Texts7, AllSame9, PlainS8.
-/
import Derived.Test.YtefnkbgkcjhkoaaQ06
import Derived.Test.YtefnkbgkcjhkoaaQ04
import Derived.Lib.Bytes
import Derived.Deep.QuietTactic
import Derived.BigQuiet
import Derived.Test.YtefnkbgkcjhkoaaRows
import Derived.Test.YtefnkbgkcjhkoaaQ07
import Derived.Deep.AppendLies
import Derived.Lib.SliceRun
/-
  Texts in their order, byte by byte: plain facts; and the contract of the document's own order (Below).
-/
namespace Go.Proofs.Ytefnkbgkcjhkoaa
set_option maxRecDepth 100000
open Go.RowKit

/-- Is a text below another one, byte by byte? (The model's own order of texts.) -/
def K.lt (x y : ByteArray) : Bool := Op.bytesLess x.toList y.toList
def K.ls (x y : List UInt8) : Bool := Op.bytesLess x y

theorem K.lt_ls (x y : ByteArray) : K.lt x y = K.ls x.data.toList y.data.toList := by unfold K.lt K.ls; rw [Lib.toList_data, Lib.toList_data]

theorem K.ls_irrefl : ∀ x : List UInt8, K.ls x x = false
  | [] => rfl
  | a :: x => by
    have := K.ls_irrefl x
    unfold K.ls at *
    simp [Op.bytesLess, this]

theorem K.ls_nil : ∀ x : List UInt8, K.ls x [] = false
  | [] => rfl
  | _ :: _ => rfl

theorem K.ls_cons (a b : UInt8) (x y : List UInt8) : K.ls (a :: x) (b :: y) = (decide (a < b) || (a == b && K.ls x y)) := rfl

theorem K.ls_trans : ∀ x y z : List UInt8, K.ls x y = true → K.ls y z = true → K.ls x z = true
  | _, [], _, h, _ => by rw [K.ls_nil] at h; cases h
  | _, _ :: _, [], _, h => by rw [K.ls_nil] at h; cases h
  | [], _ :: _, _ :: _, _, _ => rfl
  | a :: x, b :: y, c :: z, h, k => by
    rw [K.ls_cons] at h k ⊢
    simp only [Bool.or_eq_true, Bool.and_eq_true, decide_eq_true_eq, beq_iff_eq] at h k ⊢
    rcases h with h | ⟨rfl, h⟩
    · rcases k with k | ⟨rfl, k⟩
      · exact .inl (UInt8.lt_trans h k)
      · exact .inl h
    · rcases k with k | ⟨rfl, k⟩
      · exact .inl k
      · exact .inr ⟨rfl, K.ls_trans x y z h k⟩

theorem K.ls_tri : ∀ x y : List UInt8, K.ls x y = false → K.ls y x = false → x = y
  | [], [], _, _ => rfl
  | [], _ :: _, h, _ => by simp [K.ls, Op.bytesLess] at h
  | _ :: _, [], _, h => by simp [K.ls, Op.bytesLess] at h
  | a :: x, b :: y, h, k => by
    rw [K.ls_cons] at h k
    simp only [Bool.or_eq_false_iff, Bool.and_eq_false_iff, decide_eq_false_iff_not, beq_eq_false_iff_ne] at h k
    have e : a = b := by
      have h1 := h.1
      have k1 := k.1
      rw [UInt8.lt_iff_toNat_lt] at h1 k1
      exact UInt8.toNat_inj.1 (by omega)
    subst e
    rw [K.ls_tri x y (by simpa using h.2) (by simpa using k.2)]

theorem K.ls_pre (p x y : List UInt8) : K.ls (p ++ x) (p ++ y) = K.ls x y := by
  induction p with
  | nil => rfl
  | cons a p ih => simp [List.cons_append, K.ls_cons, ih]

theorem K.lt_irrefl (x : ByteArray) : K.lt x x = false := by rw [K.lt_ls]; exact K.ls_irrefl _
theorem K.lt_trans {x y z : ByteArray} (h : K.lt x y = true) (k : K.lt y z = true) : K.lt x z = true := by
  rw [K.lt_ls] at *; exact K.ls_trans _ _ _ h k
theorem K.lt_tri {x y : ByteArray} (h : K.lt x y = false) (k : K.lt y x = false) : x = y := by
  rw [K.lt_ls] at h k
  have := K.ls_tri _ _ h k
  exact ByteArray.ext (Array.ext' this)
theorem K.lt_asymm {x y : ByteArray} (h : K.lt x y = true) : K.lt y x = false := by
  cases hb : K.lt y x with
  | false => rfl
  | true => have := K.lt_trans h hb; rw [K.lt_irrefl] at this; cases this
theorem K.lt_ne {x y : ByteArray} (h : K.lt x y = true) : x ≠ y := by
  rintro rfl
  rw [K.lt_irrefl] at h
  cases h

/-- Equality of texts, as the model asks it. -/
theorem K.eq_to {x y : ByteArray} : (x.toList == y.toList) = decide (x = y) := by
  rw [Lib.toList_data, Lib.toList_data, Bool.eq_iff_iff]
  simp only [beq_iff_eq, decide_eq_true_eq]
  exact ⟨fun h => ByteArray.ext (Array.ext' h), fun h => by rw [h]⟩

theorem K.lt_diff (a b : ByteArray) (k : Nat) (ha : k < a.size) (hb : k < b.size) (he : a.data.toList.take k = b.data.toList.take k) (hn : a[k] ≠ b[k]) : K.lt a b = decide (a[k] < b[k]) := by
  rw [K.lt_ls]
  have h1 : a.data.toList = a.data.toList.take k ++ a[k] :: a.data.toList.drop (k + 1) := by
    have : a[k] = a.data.toList[k]'(by simpa using ha) := rfl
    rw [this, ← List.drop_eq_getElem_cons (by simpa using ha), List.take_append_drop]
  have h2 : b.data.toList = a.data.toList.take k ++ b[k] :: b.data.toList.drop (k + 1) := by
    have : b[k] = b.data.toList[k]'(by simpa using hb) := rfl
    rw [he, this, ← List.drop_eq_getElem_cons (by simpa using hb), List.take_append_drop]
  rw [h1, h2, K.ls_pre, K.ls_cons]
  simp [hn]

theorem K.lt_end (a b : ByteArray) (k : Nat) (he : a.data.toList.take k = b.data.toList.take k) (h : a.size ≤ k ∨ b.size ≤ k) (ha : k ≤ a.size) (hb : k ≤ b.size) : K.lt a b = decide (a.size < b.size) := by
  rw [K.lt_ls]
  have sa : a.data.toList.length = a.size := by simp
  have sb : b.data.toList.length = b.size := by simp
  by_cases hk : a.size ≤ k
  · rw [List.take_of_length_le (by omega)] at he
    by_cases hb2 : b.size ≤ k
    · rw [List.take_of_length_le (by omega)] at he
      rw [he, K.ls_irrefl]
      have : a.size = b.size := by omega
      simp [this]
    · have h2 : b.data.toList = b.data.toList.take k ++ b.data.toList.drop k := (List.take_append_drop ..).symm
      obtain ⟨c, r, hr⟩ : ∃ c r, b.data.toList.drop k = c :: r := ⟨_, _, List.drop_eq_getElem_cons (by omega)⟩
      rw [h2, ← he, hr]
      have := K.ls_pre a.data.toList [] (c :: r)
      rw [List.append_nil] at this
      rw [this]
      have : a.size < b.size := by omega
      simp [this, K.ls, Op.bytesLess]
  · have hb2 : b.size ≤ k := by omega
    have h2 : a.data.toList = a.data.toList.take k ++ a.data.toList.drop k := (List.take_append_drop ..).symm
    rw [List.take_of_length_le (l := b.data.toList) (by omega)] at he
    rw [h2, he]
    have := K.ls_pre b.data.toList (a.data.toList.drop k) []
    rw [List.append_nil] at this
    rw [this, K.ls_nil]
    have : ¬ a.size < b.size := by omega
    simp [this]

/-- '<=' on texts, as the model asks it. -/
theorem K.le_not (f g : ByteArray) : (Op.bytesLess f.toList g.toList || f.toList == g.toList) = !K.lt g f := by
  show (K.lt f g || f.toList == g.toList) = _
  rw [K.eq_to]
  cases h : K.lt g f with
  | true => simp [K.lt_asymm h, Ne.symm (K.lt_ne h)]
  | false =>
    cases h2 : K.lt f g with
    | true => simp
    | false => simp [K.lt_tri h2 h]

theorem ret_bool {a b : Bool} (h : a = b) : Ending.returned (.bool a) = .returned (.bool b) := by rw [h]

theorem byte_ne {a b : UInt8} (h : ((a.toNat : Int) != (b.toNat : Int)) = true) : a ≠ b := by
  rintro rfl
  simp at h
theorem byte_eq {a b : UInt8} (h : ((a.toNat : Int) != (b.toNat : Int)) = false) : a = b := by
  rw [bne_eq_false_iff_eq] at h
  exact UInt8.toNat_inj.1 (by omega)
theorem take_snoc_b (s : ByteArray) (k : Nat) (h : k < s.size) : s.data.toList.take (k + 1) = s.data.toList.take k ++ [s[k]] := by
  rw [List.take_succ_eq_append_getElem (by simpa using h)]; rfl

set_option maxHeartbeats 1000000 in
theorem below_any (a b : ByteArray) (w : World) (ha : a.size ≤ maxLen) :
    Calls Try.prog 29 #[.string a, .string b] w fun e w' => e = .returned (.bool (K.lt a b)) ∧ ∃ n, w' = w.drewN n := by
  unfold maxLen at ha
  go_enter Try.func29, Try.ntmps29
  go_wp2
  go_loopw [5] (fun i wr => ∃ k : Nat, k ≤ a.size ∧ k ≤ b.size ∧ i = .int .i64 k ∧ a.data.toList.take k = b.data.toList.take k ∧ ∃ n, wr = w.drewN n) (fun i _ => a.size - (intOf i).toNat)
  case atStart => exact ⟨0, Nat.zero_le _, Nat.zero_le _, rfl, rfl, 0, rfl⟩
  case round =>
    obtain ⟨k, hka, hkb, rfl, ht, n, rfl⟩ := hrel
    have HT := hide ht
    clear ht
    by_cases h1 : k < a.size
    · by_cases h2 : k < b.size
      · have hd := hide (K.lt_diff a b k h1 h2 (unhide HT))
        go_wp2
        go_region
        all_goals (try go_wp2)
        · have he : ((a[k].toNat : Int) != (b[k].toNat : Int)) = true := by assumption
          go_region
          all_goals (try go_wp2)
          go_ret
          refine ⟨ret_bool ?_, n + 2, rfl⟩
          rw [unhide hd (byte_ne he)]
          simp [UInt8.lt_iff_toNat_lt]
        · have he : ((a[k].toNat : Int) != (b[k].toNat : Int)) = false := by assumption
          go_roundw
          case rel => exact ⟨k + 1, by omega, by omega, by go_num, by rw [take_snoc_b a k h1, take_snoc_b b k h2, unhide HT, byte_eq he], n + 1, rfl⟩
          case measure => simp [intOf]; omega
      · have hd := hide (K.lt_end a b k (unhide HT) (.inr (by omega)) hka hkb)
        go_wp2
        go_ret
        exact ⟨ret_bool (by rw [unhide hd]; try simp), n, rfl⟩
    · have hd := hide (K.lt_end a b k (unhide HT) (.inl (by omega)) hka hkb)
      go_wp2
      go_ret
      exact ⟨ret_bool (by rw [unhide hd]; try simp), n, rfl⟩

theorem below_b (a b : ByteArray) (w : World) (ha : a.size ≤ maxLen) (r : Bool) (hr : K.lt a b = r) :
    Calls Try.prog 29 #[.string a, .string b] w fun e w' => e = .returned (.bool r) ∧ ∃ n, w' = w.drewN n := by
  rw [← hr]
  exact below_any a b w ha
end Go.Proofs.Ytefnkbgkcjhkoaa

/-
  The plain mathematics of layer 7: words in their order, where a word stands, the words of many lists. No program is named here.
-/
namespace Go.Proofs.Ytefnkbgkcjhkoaa
set_option maxRecDepth 100000
namespace D

/-- Is each above the one ahead (the first one above a), and of at most 32 bytes? -/
def up : ByteArray → List ByteArray → Bool
  | _, [] => true
  | a, x :: l => K.lt a x && decide (x.size ≤ 32) && up x l

/-- Words may be. -/
def may (l : List ByteArray) : Bool := decide (l.length ≤ 200) && up ⟨#[]⟩ l

/-- Each is above all ahead. -/
def Rise (l : List ByteArray) : Prop := l.Pairwise fun x y => K.lt x y = true

theorem data_nil {x : ByteArray} (h : x.size = 0) : x = ⟨#[]⟩ := by
  have e : x.data.toList = [] := List.eq_nil_of_length_eq_zero (by simpa using h)
  exact ByteArray.ext (Array.ext' e)

theorem lt_none (x : ByteArray) : K.lt ⟨#[]⟩ x = decide (1 ≤ x.size) := by
  rw [K.lt_end ⟨#[]⟩ x 0 rfl (.inl (Nat.le_refl _)) (Nat.zero_le _) (Nat.zero_le _)]
  rfl

theorem up_all : ∀ {l : List ByteArray} {a : ByteArray}, up a l = true → Rise l ∧ ∀ x ∈ l, K.lt a x = true ∧ x.size ≤ 32
  | [], _, _ => ⟨.nil, fun x h => by cases h⟩
  | y :: l, a, h => by
    simp only [up, Bool.and_eq_true, decide_eq_true_eq] at h
    obtain ⟨⟨h1, h2⟩, h3⟩ := h
    obtain ⟨r, q⟩ := up_all h3
    refine ⟨.cons (fun x hx => (q x hx).1) r, fun x hx => ?_⟩
    rcases List.mem_cons.1 hx with rfl | hx
    · exact ⟨h1, h2⟩
    · exact ⟨K.lt_trans h1 (q x hx).1, (q x hx).2⟩

theorem up_of : ∀ {l : List ByteArray} {a : ByteArray}, Rise l → (∀ x ∈ l, K.lt a x = true ∧ x.size ≤ 32) → up a l = true
  | [], _, _, _ => rfl
  | y :: l, a, r, h => by
    obtain ⟨r1, r2⟩ := List.pairwise_cons.1 r
    have hy := h y (List.mem_cons_self ..)
    simp only [up, Bool.and_eq_true, decide_eq_true_eq]
    exact ⟨hy, up_of r2 fun x hx => ⟨r1 x hx, (h x (List.mem_cons_of_mem _ hx)).2⟩⟩

theorem may_rise {l : List ByteArray} (h : may l = true) : Rise l := by
  simp only [may, Bool.and_eq_true] at h
  exact (up_all h.2).1
theorem may_len {l : List ByteArray} (h : may l = true) : l.length ≤ 200 := by
  simp only [may, Bool.and_eq_true, decide_eq_true_eq] at h
  exact h.1
theorem may_size {l : List ByteArray} (h : may l = true) : ∀ x ∈ l, 1 ≤ x.size ∧ x.size ≤ 32 := fun x hx => by
  simp only [may, Bool.and_eq_true] at h
  have := (up_all h.2).2 x hx
  rw [lt_none] at this
  simpa using this
theorem may_up {l : List ByteArray} (h : may l = true) : up ⟨#[]⟩ l = true := by
  simp only [may, Bool.and_eq_true] at h
  exact h.2
theorem may_of {l : List ByteArray} (h1 : l.length ≤ 200) (h2 : Rise l) (h3 : ∀ x ∈ l, 1 ≤ x.size ∧ x.size ≤ 32) : may l = true := by
  simp only [may, Bool.and_eq_true, decide_eq_true_eq]
  exact ⟨h1, up_of h2 fun x hx => by rw [lt_none]; simpa using h3 x hx⟩

theorem rise_lt {l : List ByteArray} (h : Rise l) {i k : Nat} {x y : ByteArray} (hik : i < k) (hx : l[i]? = some x) (hy : l[k]? = some y) : K.lt x y = true := by
  obtain ⟨hi, rfl⟩ := List.getElem?_eq_some_iff.1 hx
  obtain ⟨hk, rfl⟩ := List.getElem?_eq_some_iff.1 hy
  exact List.pairwise_iff_getElem.1 h i k hi hk hik

/-! ### Where a word stands -/

/-- How many are below t. -/
def bel (l : List ByteArray) (t : ByteArray) : Nat := l.countP fun x => K.lt x t

theorem bel_is {l : List ByteArray} {t : ByteArray} {i : Nat} (hi : i ≤ l.length) (h1 : ∀ k y, k < i → l[k]? = some y → K.lt y t = true) (h2 : ∀ k y, i ≤ k → l[k]? = some y → K.lt y t = false) : bel l t = i := by
  unfold bel
  rw [← List.take_append_drop i l, List.countP_append]
  have e1 : (l.take i).countP (fun x => K.lt x t) = (l.take i).length := by
    rw [List.countP_eq_length]
    intro x hx
    obtain ⟨k, hk, rfl⟩ := List.mem_iff_getElem.1 hx
    rw [List.length_take] at hk
    exact h1 k _ (by omega) (by rw [List.getElem?_eq_getElem (by omega)]; simp)
  have e2 : (l.drop i).countP (fun x => K.lt x t) = 0 := by
    rw [List.countP_eq_zero]
    intro x hx
    obtain ⟨k, hk, rfl⟩ := List.mem_iff_getElem.1 hx
    simp at hk
    rw [h2 (i + k) _ (by omega) (by simp [List.getElem?_eq_getElem (show i + k < l.length by omega)])]
    simp
  rw [e1, e2]
  simp
  omega

theorem bel_le (l : List ByteArray) (t : ByteArray) : bel l t ≤ l.length := List.countP_le_length

theorem bel_self {l : List ByteArray} (h : Rise l) {i : Nat} {t : ByteArray} (ht : l[i]? = some t) : bel l t = i := by
  refine bel_is (Nat.le_of_lt (List.getElem?_eq_some_iff.1 ht).1) (fun k y hk hy => rise_lt h hk hy ht) (fun k y hk hy => ?_)
  rcases Nat.lt_or_ge i k with h1 | h1
  · exact K.lt_asymm (rise_lt h h1 ht hy)
  · have e : k = i := by omega
    subst e
    rw [ht] at hy
    cases hy
    exact K.lt_irrefl _

theorem bel_step {l : List ByteArray} {t x : ByteArray} {k : Nat} (h : l[k]? = some x) : bel (l.take (k + 1)) t = bel (l.take k) t + if K.lt x t = true then 1 else 0 := by
  obtain ⟨hk, rfl⟩ := List.getElem?_eq_some_iff.1 h
  unfold bel
  rw [List.take_succ_eq_append_getElem hk, List.countP_append, List.countP_singleton]

/-- All ahead of that place are below t, and nothing from there on. -/
theorem bel_cut {l : List ByteArray} (h : Rise l) (t : ByteArray) : (∀ k y, k < bel l t → l[k]? = some y → K.lt y t = true) ∧ (∀ k y, bel l t ≤ k → l[k]? = some y → K.lt y t = false) := by
  have key : ∃ i, i ≤ l.length ∧ (∀ k y, k < i → l[k]? = some y → K.lt y t = true) ∧ (∀ k y, i ≤ k → l[k]? = some y → K.lt y t = false) := by
    induction l with
    | nil => exact ⟨0, Nat.le_refl _, fun k y hk => by omega, fun k y _ hy => by simp at hy⟩
    | cons z l ih =>
      obtain ⟨r1, r2⟩ := List.pairwise_cons.1 h
      cases hz : K.lt z t with
      | true =>
        obtain ⟨i, h0, h1, h2⟩ := ih r2
        refine ⟨i + 1, by simp; omega, fun k y hk hy => ?_, fun k y hk hy => ?_⟩
        · cases k with
          | zero => simp at hy; subst hy; exact hz
          | succ k => exact h1 k y (by omega) (by simpa using hy)
        · cases k with
          | zero => omega
          | succ k => exact h2 k y (by omega) (by simpa using hy)
      | false =>
        refine ⟨0, Nat.zero_le _, fun k y hk => by omega, fun k y _ hy => ?_⟩
        cases hb : K.lt y t with
        | false => rfl
        | true =>
          cases k with
          | zero => simp at hy; subst hy; rw [hz] at hb; cases hb
          | succ k =>
            have := K.lt_trans (r1 y (List.mem_of_getElem? (by simpa using hy))) hb
            rw [hz] at this
            cases this
  obtain ⟨i, h0, h1, h2⟩ := key
  rw [bel_is h0 h1 h2]
  exact ⟨h1, h2⟩

theorem mem_bel {l : List ByteArray} (h : Rise l) {t : ByteArray} : t ∈ l ↔ l[bel l t]? = some t := by
  refine ⟨fun ht => ?_, fun ht => List.mem_of_getElem? ht⟩
  obtain ⟨i, hi, rfl⟩ := List.mem_iff_getElem.1 ht
  have e : l[i]? = some l[i] := List.getElem?_eq_getElem hi
  rw [bel_self h e]
  exact e

/-- What Find and Below tell. -/
def findR (l : List ByteArray) (t : ByteArray) : Int := if may l = true ∧ l[bel l t]? = some t then bel l t else -1
def belR (l : List ByteArray) (t : ByteArray) : Int := if may l = true then bel l t else 0

/-! ### Lists of the same words -/

theorem rise_ext : ∀ {l m : List ByteArray}, Rise l → Rise m → (∀ x, x ∈ l ↔ x ∈ m) → l = m
  | [], [], _, _, _ => rfl
  | [], y :: m, _, _, h => by have := (h y).2 (List.mem_cons_self ..); cases this
  | x :: l, [], _, _, h => by have := (h x).1 (List.mem_cons_self ..); cases this
  | x :: l, y :: m, hl, hm, h => by
    obtain ⟨l1, l2⟩ := List.pairwise_cons.1 hl
    obtain ⟨m1, m2⟩ := List.pairwise_cons.1 hm
    have e : x = y := by
      rcases List.mem_cons.1 ((h x).1 (List.mem_cons_self ..)) with e | hx
      · exact e
      · rcases List.mem_cons.1 ((h y).2 (List.mem_cons_self ..)) with e | hy
        · exact e.symm
        · have a1 := m1 x hx
          have a2 := K.lt_asymm (l1 y hy)
          rw [a1] at a2
          cases a2
    subst e
    rw [rise_ext l2 m2 (fun z => ?_)]
    constructor
    · intro hz
      rcases List.mem_cons.1 ((h z).1 (List.mem_cons_of_mem _ hz)) with e | hz'
      · subst e; have := l1 z hz; rw [K.lt_irrefl] at this; cases this
      · exact hz'
    · intro hz
      rcases List.mem_cons.1 ((h z).2 (List.mem_cons_of_mem _ hz)) with e | hz'
      · subst e; have := m1 z hz; rw [K.lt_irrefl] at this; cases this
      · exact hz'

/-! ### One more word -/

/-- Words with one more, in its place, if it is not there. -/
def add (l : List ByteArray) (t : ByteArray) : List ByteArray :=
  if l[bel l t]? = some t then l else l.take (bel l t) ++ t :: l.drop (bel l t)

theorem mem_add {l : List ByteArray} {t x : ByteArray} : x ∈ add l t ↔ x = t ∨ x ∈ l := by
  unfold add
  split
  · rename_i h
    exact ⟨.inr, fun h1 => by rcases h1 with rfl | h1; exact List.mem_of_getElem? h; exact h1⟩
  · have e : x ∈ l ↔ x ∈ l.take (bel l t) ∨ x ∈ l.drop (bel l t) := by
      rw [← List.mem_append, List.take_append_drop]
    rw [List.mem_append, List.mem_cons, e]
    constructor
    · rintro (h | h | h)
      · exact .inr (.inl h)
      · exact .inl h
      · exact .inr (.inr h)
    · rintro (h | h | h)
      · exact .inr (.inl h)
      · exact .inl h
      · exact .inr (.inr h)

theorem add_rise {l : List ByteArray} {t : ByteArray} (h : Rise l) : Rise (add l t) := by
  unfold add
  split
  · exact h
  · rename_i hn
    obtain ⟨c1, c2⟩ := bel_cut h t
    have hd : ∀ y ∈ l.drop (bel l t), K.lt t y = true := fun y hy => by
      obtain ⟨k, hk, rfl⟩ := List.mem_iff_getElem.1 hy
      simp at hk
      have e : l[bel l t + k]? = some (l.drop (bel l t))[k] := by simp [List.getElem?_eq_getElem (show bel l t + k < l.length by omega)]
      have f := c2 _ _ (by omega) e
      cases hb : K.lt t (l.drop (bel l t))[k] with
      | true => rfl
      | false =>
        have e2 := K.lt_tri f hb
        have e3 : l[bel l t]? = some t := by rw [← mem_bel h, ← e2]; exact List.mem_of_getElem? e
        exact absurd e3 hn
    refine List.pairwise_append.2 ⟨h.sublist (List.take_sublist ..), List.pairwise_cons.2 ⟨hd, h.sublist (List.drop_sublist ..)⟩, fun a ha b hb => ?_⟩
    have ha' : K.lt a t = true := by
      obtain ⟨k, hk, rfl⟩ := List.mem_iff_getElem.1 ha
      rw [List.length_take] at hk
      exact c1 k _ (by omega) (by rw [List.getElem?_eq_getElem (by omega)]; simp)
    rcases List.mem_cons.1 hb with rfl | hb
    · exact ha'
    · exact K.lt_trans ha' (hd b hb)

theorem add_at {l : List ByteArray} {t : ByteArray} (h : Rise l) {k : Nat} (hk : k ≤ l.length) (ha : ∀ j g, j < k → l[j]? = some g → K.lt g t = true) (hb : ∀ g, l[k]? = some g → K.lt g t = false) : bel l t = k := by
  refine bel_is hk ha fun j y hj hy => ?_
  rcases Nat.lt_or_ge k j with h1 | h1
  · cases hz : K.lt y t with
    | false => rfl
    | true =>
      have hkl : k < l.length := by have := (List.getElem?_eq_some_iff.1 hy).1; omega
      have e := List.getElem?_eq_getElem hkl
      have := K.lt_trans (rise_lt h h1 e hy) hz
      rw [hb _ e] at this
      cases this
  · have e : j = k := by omega
    subst e
    exact hb y hy

/-! ### The words of many lists -/

def adds (o l : List ByteArray) : List ByteArray := l.foldl add o
def un (ls : List (List ByteArray)) : List ByteArray := ls.foldl adds []

theorem adds_rise : ∀ {l o : List ByteArray}, Rise o → Rise (adds o l)
  | [], _, h => h
  | x :: l, _, h => adds_rise (l := l) (add_rise (t := x) h)
theorem mem_adds : ∀ {l o : List ByteArray} {x : ByteArray}, x ∈ adds o l ↔ x ∈ o ∨ x ∈ l
  | [], o, x => by simp [adds]
  | y :: l, o, x => by
    have := mem_adds (l := l) (o := add o y) (x := x)
    rw [show adds o (y :: l) = adds (add o y) l from rfl, this, mem_add, List.mem_cons]
    constructor
    · rintro ((h | h) | h)
      · exact .inr (.inl h)
      · exact .inl h
      · exact .inr (.inr h)
    · rintro (h | h | h)
      · exact .inl (.inr h)
      · exact .inl (.inl h)
      · exact .inr h
theorem uns_rise : ∀ {ls : List (List ByteArray)} {o : List ByteArray}, Rise o → Rise (ls.foldl adds o)
  | [], _, h => h
  | l :: ls, _, h => uns_rise (ls := ls) (adds_rise (l := l) h)
theorem mem_uns : ∀ {ls : List (List ByteArray)} {o : List ByteArray} {x : ByteArray}, x ∈ ls.foldl adds o ↔ x ∈ o ∨ ∃ l ∈ ls, x ∈ l
  | [], o, x => by simp
  | l :: ls, o, x => by
    have := mem_uns (ls := ls) (o := adds o l) (x := x)
    rw [List.foldl_cons, this, mem_adds]
    simp only [List.mem_cons, exists_eq_or_imp, or_assoc]
theorem un_rise (ls : List (List ByteArray)) : Rise (un ls) := uns_rise .nil
theorem mem_un {ls : List (List ByteArray)} {x : ByteArray} : x ∈ un ls ↔ ∃ l ∈ ls, x ∈ l := by
  unfold un
  rw [mem_uns]
  simp

theorem add_len (l : List ByteArray) (t : ByteArray) : (add l t).length ≤ l.length + 1 := by
  unfold add
  split
  · omega
  · have := bel_le l t
    simp
    omega
theorem adds_len : ∀ (l o : List ByteArray), (adds o l).length ≤ o.length + l.length
  | [], o => Nat.le_refl _
  | x :: l, o => by
    have h1 := adds_len l (add o x)
    have h2 := add_len o x
    rw [show adds o (x :: l) = adds (add o x) l from rfl, List.length_cons]
    omega

/-- The least word that any list begins with. -/
def lstep (o : Option ByteArray) (l : List ByteArray) : Option ByteArray :=
  match l, o with
  | [], o => o
  | x :: _, none => some x
  | x :: _, some w => if K.lt x w = true then some x else some w
def least (ls : List (List ByteArray)) : Option ByteArray := ls.foldl lstep none

/-- Behind the word in each list that begins with it. -/
def pass1 (w : ByteArray) : List ByteArray → List ByteArray
  | [] => []
  | x :: l => if x = w then l else x :: l
def pass (w : ByteArray) (ls : List (List ByteArray)) : List (List ByteArray) := ls.map (pass1 w)

theorem least_step {ls : List (List ByteArray)} {k : Nat} {l : List ByteArray} (h : ls[k]? = some l) : least (ls.take (k + 1)) = lstep (least (ls.take k)) l := by
  obtain ⟨hk, rfl⟩ := List.getElem?_eq_some_iff.1 h
  unfold least
  rw [List.take_succ_eq_append_getElem hk, List.foldl_append]
  rfl

theorem least_snoc (ls : List (List ByteArray)) (l : List ByteArray) : least (ls ++ [l]) = lstep (least ls) l := by
  unfold least
  rw [List.foldl_append]
  rfl

theorem least_is (ls : List (List ByteArray)) : (least ls = none → ∀ l ∈ ls, l = []) ∧ ∀ w, least ls = some w → (∃ l ∈ ls, l.head? = some w) ∧ ∀ l ∈ ls, ∀ y, l.head? = some y → K.lt y w = false := by
  suffices H : ∀ n (ls : List (List ByteArray)), ls.length = n → (least ls = none → ∀ l ∈ ls, l = []) ∧ ∀ w, least ls = some w → (∃ l ∈ ls, l.head? = some w) ∧ ∀ l ∈ ls, ∀ y, l.head? = some y → K.lt y w = false from H _ ls rfl
  intro n
  induction n with
  | zero =>
    intro ls h
    have : ls = [] := List.eq_nil_of_length_eq_zero h
    subst this
    exact ⟨fun _ l hl => (by cases hl), fun w hw => (by simp [least] at hw)⟩
  | succ n ih =>
    intro ls h
    rcases List.eq_nil_or_concat ls with rfl | ⟨ms, l, rfl⟩
    · simp at h
    rw [List.concat_eq_append] at *
    obtain ⟨i1, i2⟩ := ih ms (by simpa using h)
    rw [least_snoc]
    cases l with
    | nil =>
      refine ⟨fun e m hm => ?_, fun w e => ?_⟩
      · rcases List.mem_append.1 hm with hm | hm
        · exact i1 e m hm
        · simpa using hm
      · obtain ⟨⟨m, hm, hh⟩, i4⟩ := i2 w e
        refine ⟨⟨m, List.mem_append_left _ hm, hh⟩, fun m hm y hy => ?_⟩
        rcases List.mem_append.1 hm with hm | hm
        · exact i4 m hm y hy
        · simp at hm
          subst hm
          simp at hy
    | cons x l =>
      cases hm0 : least ms with
      | none =>
        refine ⟨fun e => by simp [lstep] at e, fun w e => ?_⟩
        simp only [lstep, Option.some.injEq] at e
        subst e
        refine ⟨⟨x :: l, by simp, rfl⟩, fun m hm y hy => ?_⟩
        rcases List.mem_append.1 hm with hm | hm
        · rw [i1 hm0 m hm] at hy
          simp at hy
        · simp at hm
          subst hm
          simp at hy
          subst hy
          exact K.lt_irrefl _
      | some u =>
        obtain ⟨⟨m, hm, hh⟩, i4⟩ := i2 u hm0
        simp only [lstep]
        cases hxu : K.lt x u with
        | true =>
          refine ⟨fun e => by simp at e, fun w e => ?_⟩
          simp only [if_true, Option.some.injEq] at e
          subst e
          refine ⟨⟨x :: l, by simp, rfl⟩, fun m hm y hy => ?_⟩
          rcases List.mem_append.1 hm with hm | hm
          · cases hb : K.lt y x with
            | false => rfl
            | true => have := K.lt_trans hb hxu; rw [i4 m hm y hy] at this; cases this
          · simp at hm
            subst hm
            simp at hy
            subst hy
            exact K.lt_irrefl _
        | false =>
          refine ⟨fun e => by simp at e, fun w e => ?_⟩
          simp only [Bool.false_eq_true, if_false, Option.some.injEq] at e
          subst e
          refine ⟨⟨m, List.mem_append_left _ hm, hh⟩, fun m' hm' y hy => ?_⟩
          rcases List.mem_append.1 hm' with hm' | hm'
          · exact i4 m' hm' y hy
          · simp at hm'
            subst hm'
            simp at hy
            subst hy
            exact hxu

theorem un_end {ls : List (List ByteArray)} (h : least ls = none) : un ls = [] := by
  refine List.eq_nil_iff_forall_not_mem.2 fun x hx => ?_
  obtain ⟨l, hl, hx⟩ := mem_un.1 hx
  rw [(least_is ls).1 h l hl] at hx
  cases hx

theorem pass1_rise {w : ByteArray} {l : List ByteArray} (h : Rise l) : Rise (pass1 w l) := by
  cases l with
  | nil => exact h
  | cons x l =>
    simp only [pass1]
    split
    · exact (List.pairwise_cons.1 h).2
    · exact h

theorem pass_rise {w : ByteArray} {ls : List (List ByteArray)} (h : ∀ l ∈ ls, Rise l) : ∀ l ∈ pass w ls, Rise l := fun l hl => by
  obtain ⟨m, hm, rfl⟩ := List.mem_map.1 hl
  exact pass1_rise (h m hm)

theorem un_next {ls : List (List ByteArray)} {w : ByteArray} (hr : ∀ l ∈ ls, Rise l) (h : least ls = some w) : un ls = w :: un (pass w ls) := by
  obtain ⟨⟨l0, h0, hh0⟩, hmin⟩ := (least_is ls).2 w h
  have hge : ∀ l ∈ ls, ∀ x ∈ l, x = w ∨ K.lt w x = true := fun l hl x hx => by
    cases l with
    | nil => cases hx
    | cons y l =>
      have hy := hmin _ hl y rfl
      have hwy : y = w ∨ K.lt w y = true := by
        cases hb : K.lt w y with
        | true => exact .inr rfl
        | false => exact .inl (K.lt_tri hy hb)
      rcases List.mem_cons.1 hx with rfl | hx
      · exact hwy
      · have := (List.pairwise_cons.1 (hr _ hl)).1 x hx
        rcases hwy with rfl | hwy
        · exact .inr this
        · exact .inr (K.lt_trans hwy this)
  have hpm : ∀ x, (∃ m ∈ pass w ls, x ∈ m) ↔ (∃ l ∈ ls, x ∈ l) ∧ x ≠ w := fun x => by
    constructor
    · rintro ⟨m, hm, hx⟩
      obtain ⟨l, hl, rfl⟩ := List.mem_map.1 hm
      cases l with
      | nil => cases hx
      | cons y l =>
        simp only [pass1] at hx
        split at hx
        · rename_i e
          refine ⟨⟨_, hl, List.mem_cons_of_mem _ hx⟩, ?_⟩
          rintro rfl
          have := (List.pairwise_cons.1 (hr _ hl)).1 x hx
          rw [e, K.lt_irrefl] at this
          cases this
        · rename_i e
          refine ⟨⟨_, hl, hx⟩, ?_⟩
          rintro rfl
          rcases List.mem_cons.1 hx with h1 | h1
          · exact e h1.symm
          · have h2 := (List.pairwise_cons.1 (hr _ hl)).1 x h1
            rcases hge _ hl y (List.mem_cons_self ..) with h3 | h3
            · exact e h3
            · rw [K.lt_asymm h3] at h2
              cases h2
    · rintro ⟨⟨l, hl, hx⟩, hne⟩
      refine ⟨pass1 w l, List.mem_map.2 ⟨l, hl, rfl⟩, ?_⟩
      cases l with
      | nil => cases hx
      | cons y l =>
        simp only [pass1]
        split
        · rename_i e
          rcases List.mem_cons.1 hx with h1 | h1
          · exact absurd (h1.trans e) hne
          · exact h1
        · exact hx
  refine rise_ext (un_rise _) (List.pairwise_cons.2 ⟨fun x hx => ?_, un_rise _⟩) fun x => ?_
  · obtain ⟨⟨l, hl, hx⟩, hne⟩ := (hpm x).1 (mem_un.1 hx)
    rcases hge l hl x hx with h1 | h1
    · exact absurd h1 hne
    · exact h1
  · rw [List.mem_cons, mem_un, mem_un, hpm]
    constructor
    · intro hx
      by_cases e : x = w
      · exact .inl e
      · exact .inr ⟨hx, e⟩
    · rintro (rfl | hx)
      · exact ⟨l0, h0, List.mem_of_mem_head? hh0⟩
      · exact hx.1

/-- What Or tells. -/
def orR (ls : List (List ByteArray)) : List ByteArray := if ls.all may = true ∧ (un ls).length ≤ 200 then un ls else []
end D
end Go.Proofs.Ytefnkbgkcjhkoaa

/-
  The plain mathematics of layer 8, laid ahead: cards in their order, put in order; where words stand in cards. No program is named here.
-/
namespace Go.Proofs.Ytefnkbgkcjhkoaa
set_option maxRecDepth 100000

/-- A card, as it reads. -/
structure Cd where
  id : ByteArray
  key : Int
  w : List ByteArray

theorem Cd.eq {a b : Cd} (h1 : a.id = b.id) (h2 : a.key = b.key) (h3 : a.w = b.w) : a = b := by
  cases a
  cases b
  simp at h1 h2 h3
  subst h1 h2 h3
  rfl

namespace S

/-- Is a's key the less one; or, of the same key, its id? -/
def before (a b : Cd) : Bool := decide (a.key < b.key) || (decide (a.key = b.key) && K.lt a.id b.id)

theorem before_iff {a b : Cd} : before a b = true ↔ a.key < b.key ∨ (a.key = b.key ∧ K.lt a.id b.id = true) := by
  simp [before]

theorem before_irrefl (a : Cd) : before a a = false := by simp [before, K.lt_irrefl]

theorem before_trans {a b c : Cd} (h : before a b = true) (k : before b c = true) : before a c = true := by
  rw [before_iff] at *
  rcases h with h | ⟨h1, h2⟩
  · rcases k with k | ⟨k1, k2⟩
    · exact .inl (by omega)
    · exact .inl (by omega)
  · rcases k with k | ⟨k1, k2⟩
    · exact .inl (by omega)
    · exact .inr ⟨by omega, K.lt_trans h2 k2⟩

theorem before_asymm {a b : Cd} (h : before a b = true) : before b a = false := by
  cases hb : before b a with
  | false => rfl
  | true => have := before_trans h hb; rw [before_irrefl] at this; cases this

theorem before_tri {a b : Cd} (h : before a b = false) (k : before b a = false) : a.key = b.key ∧ a.id = b.id := by
  have h1 : ¬ before a b = true := by rw [h]; decide
  have k1 : ¬ before b a = true := by rw [k]; decide
  rw [before_iff] at h1 k1
  have e : a.key = b.key := by omega
  refine ⟨e, K.lt_tri ?_ ?_⟩
  · cases hb : K.lt a.id b.id with
    | false => rfl
    | true => exact absurd (.inr ⟨e, hb⟩) h1
  · cases hb : K.lt b.id a.id with
    | false => rfl
    | true => exact absurd (.inr ⟨e.symm, hb⟩) k1

/-- Of unlike ids; each before the next ones. -/
def Unlike (l : List Cd) : Prop := l.Pairwise fun a b => a.id ≠ b.id
def Up (l : List Cd) : Prop := l.Pairwise fun a b => before a b = true

theorem Unlike.perm {l m : List Cd} (h : Unlike l) (p : l.Perm m) : Unlike m := (p.pairwise_iff fun h => Ne.symm h).1 h

/-- A card put in its place among some. -/
def ins (l : List Cd) (c : Cd) : List Cd := l.takeWhile (fun x => before x c) ++ c :: l.dropWhile (fun x => before x c)
/-- Cards put in order. -/
def srt (l : List Cd) : List Cd := l.foldl ins []

theorem ins_perm (l : List Cd) (c : Cd) : (ins l c).Perm (c :: l) := by
  unfold ins
  refine List.perm_middle.trans ?_
  rw [List.takeWhile_append_dropWhile]

theorem srts_perm : ∀ (l o : List Cd), (l.foldl ins o).Perm (o ++ l)
  | [], o => by simp
  | c :: l, o => by
    rw [List.foldl_cons]
    refine (srts_perm l (ins o c)).trans ?_
    refine ((ins_perm o c).append_right l).trans ?_
    exact List.perm_middle.symm

theorem srt_perm (l : List Cd) : (srt l).Perm l := srts_perm l []

theorem drop_ge : ∀ {l : List Cd} {c : Cd}, Up l → ∀ x ∈ l.dropWhile (fun x => before x c), before x c = false
  | [], _, _, x, hx => by cases hx
  | y :: l, c, h, x, hx => by
    obtain ⟨h1, h2⟩ := List.pairwise_cons.1 h
    cases hy : before y c with
    | true =>
      rw [List.dropWhile_cons, if_pos hy] at hx
      exact drop_ge h2 x hx
    | false =>
      rw [List.dropWhile_cons, if_neg (by rw [hy]; decide)] at hx
      rcases List.mem_cons.1 hx with rfl | hx
      · exact hy
      · cases hb : before x c with
        | false => rfl
        | true => have := before_trans (h1 x hx) hb; rw [hy] at this; cases this

theorem take_lt : ∀ {l : List Cd} {c x : Cd}, x ∈ l.takeWhile (fun x => before x c) → before x c = true
  | [], _, _, h => by cases h
  | y :: l, c, x, h => by
    cases hy : before y c with
    | true =>
      rw [List.takeWhile_cons, if_pos hy] at h
      rcases List.mem_cons.1 h with rfl | h
      · exact hy
      · exact take_lt h
    | false =>
      rw [List.takeWhile_cons, if_neg (by rw [hy]; decide)] at h
      cases h

theorem ins_up {l : List Cd} {c : Cd} (h : Up l) (hu : ∀ x ∈ l, x.id ≠ c.id) : Up (ins l c) := by
  unfold ins
  have hd : ∀ x ∈ l.dropWhile (fun x => before x c), before c x = true := fun x hx => by
    have h1 := drop_ge h x hx
    cases hb : before c x with
    | true => rfl
    | false => exact absurd (before_tri h1 hb).2 (hu x (List.dropWhile_sublist _ |>.subset hx))
  refine List.pairwise_append.2 ⟨h.sublist (List.takeWhile_sublist _), List.pairwise_cons.2 ⟨hd, h.sublist (List.dropWhile_sublist _)⟩, fun a ha b hb => ?_⟩
  have h1 := take_lt ha
  rcases List.mem_cons.1 hb with rfl | hb
  · exact h1
  · exact before_trans h1 (hd b hb)

theorem srts_up : ∀ {l o : List Cd}, Up o → Unlike (o ++ l) → Up (l.foldl ins o)
  | [], _, h, _ => h
  | c :: l, o, h, hu => by
    rw [List.foldl_cons]
    refine srts_up (ins_up h fun x hx => ?_) (hu.perm ?_)
    · exact (List.pairwise_append.1 hu).2.2 x hx c (List.mem_cons_self ..)
    · exact List.perm_middle.trans ((ins_perm o c).append_right l).symm

theorem srt_up {l : List Cd} (h : Unlike l) : Up (srt l) := srts_up .nil h

/-- Whichever way cards are put in order, it is the same row. -/
theorem up_ext : ∀ {l m : List Cd}, Up l → Up m → l.Perm m → l = m
  | [], m, _, _, p => (List.nil_perm.1 p).symm
  | x :: l, [], _, _, p => by have := p.length_eq; simp at this
  | x :: l, y :: m, hl, hm, p => by
    obtain ⟨l1, l2⟩ := List.pairwise_cons.1 hl
    obtain ⟨m1, m2⟩ := List.pairwise_cons.1 hm
    have e : x = y := by
      rcases List.mem_cons.1 (p.subset (List.mem_cons_self ..)) with e | hx
      · exact e
      · rcases List.mem_cons.1 (p.symm.subset (List.mem_cons_self ..)) with e | hy
        · exact e.symm
        · have a1 := m1 x hx
          have a2 := before_asymm (l1 y hy)
          rw [a1] at a2
          cases a2
    subst e
    rw [up_ext l2 m2 p.cons_inv]

theorem srt_is {l m : List Cd} (h : Unlike l) (hm : Up m) (p : m.Perm l) : srt l = m := up_ext (srt_up h) hm ((srt_perm l).trans p.symm)

theorem ins_at {l : List Cd} {c : Cd} {k : Nat} (hk : k ≤ l.length) (ha : ∀ j x, j < k → l[j]? = some x → before x c = true) (hb : ∀ x, l[k]? = some x → before x c = false) : ins l c = l.take k ++ c :: l.drop k := by
  have key : ∀ (l : List Cd) (k : Nat), k ≤ l.length → (∀ j x, j < k → l[j]? = some x → before x c = true) → (∀ x, l[k]? = some x → before x c = false) → l.takeWhile (fun x => before x c) = l.take k ∧ l.dropWhile (fun x => before x c) = l.drop k := by
    intro l
    induction l with
    | nil => intro k _ _ _; simp
    | cons y l ih =>
      intro k hk ha hb
      cases k with
      | zero =>
        have hy := hb y rfl
        rw [List.takeWhile_cons, List.dropWhile_cons, if_neg (by rw [hy]; decide), if_neg (by rw [hy]; decide)]
        simp
      | succ k =>
        have hy := ha 0 y (by omega) rfl
        obtain ⟨h1, h2⟩ := ih k (by simpa using hk) (fun j x hj hx => ha (j + 1) x (by omega) (by simpa using hx)) (fun x hx => hb x (by simpa using hx))
        rw [List.takeWhile_cons, List.dropWhile_cons, if_pos hy, if_pos hy, h1, h2]
        simp
  obtain ⟨h1, h2⟩ := key l k hk ha hb
  unfold ins
  rw [h1, h2]

/-! ### Where words stand -/

/-- From place k on: where t stands. -/
def plc (t : ByteArray) : Nat → List ByteArray → List Int
  | _, [] => []
  | k, x :: l => if x = t then (k : Int) :: plc t (k + 1) l else plc t (k + 1) l
def places (l : List ByteArray) (t : ByteArray) : List Int := plc t 0 l

theorem plc_app (t : ByteArray) : ∀ (l m : List ByteArray) (k : Nat), plc t k (l ++ m) = plc t k l ++ plc t (k + l.length) m
  | [], m, k => by simp [plc]
  | x :: l, m, k => by
    have := plc_app t l m (k + 1)
    simp only [List.cons_append, plc, this, List.length_cons, show k + 1 + l.length = k + (l.length + 1) by omega]
    split <;> simp

theorem places_step {l : List ByteArray} {k : Nat} {x : ByteArray} (h : l[k]? = some x) (t : ByteArray) : places (l.take (k + 1)) t = places (l.take k) t ++ if x = t then [(k : Int)] else [] := by
  obtain ⟨hk, rfl⟩ := List.getElem?_eq_some_iff.1 h
  unfold places
  rw [List.take_succ_eq_append_getElem hk, plc_app]
  have e : (l.take k).length = k := by simp; omega
  rw [e]
  simp [plc]

theorem mem_plc (t : ByteArray) : ∀ (l : List ByteArray) (k : Nat) (y : Int), y ∈ plc t k l ↔ ∃ j : Nat, y = ((k + j : Nat) : Int) ∧ l[j]? = some t
  | [], k, y => by simp [plc]
  | x :: l, k, y => by
    have ih := mem_plc t l (k + 1) y
    have key : (∃ j : Nat, y = ((k + j : Nat) : Int) ∧ (x :: l)[j]? = some t) ↔ (y = (k : Int) ∧ x = t) ∨ ∃ j : Nat, y = ((k + 1 + j : Nat) : Int) ∧ l[j]? = some t := by
      constructor
      · rintro ⟨j, h1, h2⟩
        cases j with
        | zero => exact .inl ⟨by simpa using h1, by simpa using h2⟩
        | succ j => exact .inr ⟨j, by rw [h1]; congr 1; omega, by simpa using h2⟩
      · rintro (⟨h1, h2⟩ | ⟨j, h1, h2⟩)
        · exact ⟨0, by simpa using h1, by simp [h2]⟩
        · exact ⟨j + 1, by rw [h1]; congr 1; omega, by simpa using h2⟩
    rw [key, ← ih]
    simp only [plc]
    split
    · rename_i e
      simp [e]
    · rename_i e
      simp [e]

theorem mem_places {l : List ByteArray} {t : ByteArray} {y : Int} : y ∈ places l t ↔ ∃ j : Nat, y = (j : Int) ∧ l[j]? = some t := by
  unfold places
  rw [mem_plc]
  simp

theorem plc_up (t : ByteArray) : ∀ (l : List ByteArray) (k : Nat), (plc t k l).Pairwise (fun a b => a < b) ∧ ∀ y ∈ plc t k l, (k : Int) ≤ y
  | [], _ => ⟨.nil, fun y hy => by cases hy⟩
  | x :: l, k => by
    obtain ⟨h1, h2⟩ := plc_up t l (k + 1)
    simp only [plc]
    split
    · refine ⟨List.pairwise_cons.2 ⟨fun y hy => by have := h2 y hy; omega, h1⟩, fun y hy => ?_⟩
      rcases List.mem_cons.1 hy with rfl | hy
      · omega
      · have := h2 y hy; omega
    · exact ⟨h1, fun y hy => by have := h2 y hy; omega⟩

theorem places_up (l : List ByteArray) (t : ByteArray) : (places l t).Pairwise fun a b => a < b := (plc_up t l 0).1

theorem plc_len (t : ByteArray) : ∀ (l : List ByteArray) (k : Nat), (plc t k l).length ≤ l.length
  | [], _ => Nat.le_refl _
  | x :: l, k => by
    have := plc_len t l (k + 1)
    simp only [plc, List.length_cons]
    split
    · simp; omega
    · omega
theorem places_len (l : List ByteArray) (t : ByteArray) : (places l t).length ≤ l.length := plc_len t l 0

theorem places_nil {l : List ByteArray} {t : ByteArray} : places l t = [] ↔ t ∉ l := by
  rw [List.eq_nil_iff_forall_not_mem]
  constructor
  · intro h ht
    obtain ⟨j, hj, e⟩ := List.mem_iff_getElem.1 ht
    exact h (j : Int) (mem_places.2 ⟨j, rfl, by rw [List.getElem?_eq_getElem hj, e]⟩)
  · intro h y hy
    obtain ⟨j, -, e⟩ := mem_places.1 hy
    exact h (List.mem_of_getElem? e)

/-! ### Postings: of each document, by its place, in which a word stands, at which places -/

/-- From document i on. -/
def pst (t : ByteArray) : Nat → List Cd → List (Int × List Int)
  | _, [] => []
  | i, c :: l => if places c.w t = [] then pst t (i + 1) l else ((i : Int), places c.w t) :: pst t (i + 1) l
def posts (l : List Cd) (t : ByteArray) : List (Int × List Int) := pst t 0 l

theorem pst_app (t : ByteArray) : ∀ (l m : List Cd) (i : Nat), pst t i (l ++ m) = pst t i l ++ pst t (i + l.length) m
  | [], m, i => by simp [pst]
  | c :: l, m, i => by
    have := pst_app t l m (i + 1)
    simp only [List.cons_append, pst, this, List.length_cons, show i + 1 + l.length = i + (l.length + 1) by omega]
    split <;> simp

theorem posts_step {l : List Cd} {i : Nat} {c : Cd} (h : l[i]? = some c) (t : ByteArray) : posts (l.take (i + 1)) t = posts (l.take i) t ++ if places c.w t = [] then [] else [((i : Int), places c.w t)] := by
  obtain ⟨hi, rfl⟩ := List.getElem?_eq_some_iff.1 h
  unfold posts
  rw [List.take_succ_eq_append_getElem hi, pst_app]
  have e : (l.take i).length = i := by simp; omega
  rw [e]
  simp [pst]

theorem mem_pst (t : ByteArray) : ∀ (l : List Cd) (i : Nat) (p : Int × List Int), p ∈ pst t i l ↔ ∃ (j : Nat) (c : Cd), l[j]? = some c ∧ p = (((i + j : Nat) : Int), places c.w t) ∧ places c.w t ≠ []
  | [], i, p => by simp [pst]
  | x :: l, i, p => by
    have ih := mem_pst t l (i + 1) p
    have key : (∃ (j : Nat) (c : Cd), (x :: l)[j]? = some c ∧ p = (((i + j : Nat) : Int), places c.w t) ∧ places c.w t ≠ []) ↔ (p = ((i : Int), places x.w t) ∧ places x.w t ≠ []) ∨ ∃ (j : Nat) (c : Cd), l[j]? = some c ∧ p = (((i + 1 + j : Nat) : Int), places c.w t) ∧ places c.w t ≠ [] := by
      constructor
      · rintro ⟨j, c, h1, h2, h3⟩
        cases j with
        | zero =>
          simp at h1
          subst h1
          exact .inl ⟨by simpa using h2, h3⟩
        | succ j => exact .inr ⟨j, c, by simpa using h1, by rw [h2, show i + 1 + j = i + (j + 1) by omega], h3⟩
      · rintro (⟨h2, h3⟩ | ⟨j, c, h1, h2, h3⟩)
        · exact ⟨0, x, rfl, by simpa using h2, h3⟩
        · exact ⟨j + 1, c, by simpa using h1, by rw [h2, show i + 1 + j = i + (j + 1) by omega], h3⟩
    rw [key, ← ih]
    simp only [pst]
    split
    · rename_i e
      simp [e]
    · rename_i e
      simp [e]

theorem mem_posts {l : List Cd} {t : ByteArray} {p : Int × List Int} : p ∈ posts l t ↔ ∃ (j : Nat) (c : Cd), l[j]? = some c ∧ p = ((j : Int), places c.w t) ∧ places c.w t ≠ [] := by
  unfold posts
  rw [mem_pst]
  simp

theorem pst_up (t : ByteArray) : ∀ (l : List Cd) (i : Nat), (pst t i l).Pairwise (fun p q => p.1 < q.1) ∧ ∀ p ∈ pst t i l, (i : Int) ≤ p.1
  | [], _ => ⟨.nil, fun p hp => by cases hp⟩
  | x :: l, i => by
    obtain ⟨h1, h2⟩ := pst_up t l (i + 1)
    simp only [pst]
    split
    · exact ⟨h1, fun p hp => by have := h2 p hp; omega⟩
    · refine ⟨List.pairwise_cons.2 ⟨fun p hp => by have := h2 p hp; simp only; omega, h1⟩, fun p hp => ?_⟩
      rcases List.mem_cons.1 hp with rfl | hp
      · simp
      · have := h2 p hp; omega
theorem posts_up (l : List Cd) (t : ByteArray) : (posts l t).Pairwise fun p q => p.1 < q.1 := (pst_up t l 0).1

theorem pst_len (t : ByteArray) : ∀ (l : List Cd) (i : Nat), (pst t i l).length ≤ l.length
  | [], _ => Nat.le_refl _
  | x :: l, i => by
    have := pst_len t l (i + 1)
    simp only [pst, List.length_cons]
    split
    · omega
    · simp; omega
theorem posts_len (l : List Cd) (t : ByteArray) : (posts l t).length ≤ l.length := pst_len t l 0

/-- A word stands in document d at place k, by its postings, just if it does by the cards. -/
theorem stands {l : List Cd} {t : ByteArray} {d k : Nat} {c : Cd} (hc : l[d]? = some c) : (∃ p ∈ posts l t, p.1 = (d : Int) ∧ (k : Int) ∈ p.2) ↔ c.w[k]? = some t := by
  constructor
  · rintro ⟨p, hp, h1, h2⟩
    obtain ⟨j, c', hj, rfl, -⟩ := mem_posts.1 hp
    have e : j = d := by simp only at h1; omega
    subst e
    rw [hc] at hj
    cases hj
    obtain ⟨y, hy, h3⟩ := mem_places.1 h2
    have e : y = k := by omega
    subst e
    exact h3
  · intro h
    have hm : (k : Int) ∈ places c.w t := mem_places.2 ⟨k, rfl, h⟩
    exact ⟨((d : Int), places c.w t), mem_posts.2 ⟨d, c, hc, rfl, fun e => by rw [e] at hm; cases hm⟩, rfl, hm⟩

/-- What the postings tell of one document are the places in it. -/
theorem of_doc {l : List Cd} {t : ByteArray} {d : Nat} {c : Cd} (hc : l[d]? = some c) : ((posts l t).filter fun p => decide (p.1 = (d : Int))).flatMap (·.2) = places c.w t := by
  have key : ∀ (l : List Cd) (i : Nat), (∀ j c', l[j]? = some c' → i + j ≠ d) → (pst t i l).filter (fun p => decide (p.1 = (d : Int))) = [] := by
    intro l i h
    rw [List.filter_eq_nil_iff]
    intro p hp
    obtain ⟨j, c', hj, rfl, -⟩ := (mem_pst t l i p).1 hp
    have := h j c' hj
    simp only [decide_eq_true_eq]
    omega
  obtain ⟨hd, rfl⟩ := List.getElem?_eq_some_iff.1 hc
  have hsplit : l = l.take d ++ ([l[d]] ++ l.drop (d + 1)) := by
    rw [List.singleton_append, ← List.drop_eq_getElem_cons hd, List.take_append_drop]
  have hlen : (l.take d).length = d := by simp; omega
  have e1 : posts l t = pst t 0 (l.take d) ++ (pst t d [l[d]] ++ pst t (d + 1) (l.drop (d + 1))) := by
    have : posts l t = pst t 0 (l.take d ++ ([l[d]] ++ l.drop (d + 1))) := by rw [← hsplit]; rfl
    rw [this, pst_app, pst_app, hlen]
    simp
  have f1 := key (l.take d) 0 (fun j c' hj => by have := (List.getElem?_eq_some_iff.1 hj).1; omega)
  have f3 := key (l.drop (d + 1)) (d + 1) (fun j c' _ => by omega)
  rw [e1, List.filter_append, List.filter_append, f1, f3, List.nil_append, List.append_nil]
  simp only [pst]
  split
  · rename_i e
    simp [e]
  · simp

/-! ### What may be, and the errors -/

def fits (c : Cd) : Bool := decide (c.w.length ≤ 120) && c.w.all (fun x => decide (1 ≤ x.size) && decide (x.size ≤ 32)) && decide (1 ≤ c.id.size) && decide (c.id.size ≤ 16) && decide (0 ≤ c.key) && decide (c.key ≤ 1073741824)

/-- The words of them all, in their order, each once. -/
def words (l : List Cd) : List ByteArray := D.un (l.map (·.w))

theorem mem_words {l : List Cd} {x : ByteArray} : x ∈ words l ↔ ∃ c ∈ l, x ∈ c.w := by
  unfold words
  rw [D.mem_un]
  constructor
  · rintro ⟨m, hm, hx⟩
    obtain ⟨c, hc, rfl⟩ := List.mem_map.1 hm
    exact ⟨c, hc, hx⟩
  · rintro ⟨c, hc, hx⟩
    exact ⟨c.w, List.mem_map.2 ⟨c, hc, rfl⟩, hx⟩

theorem words_rise (l : List Cd) : D.Rise (words l) := D.un_rise _

/-- In whatever order the cards stand, their words are the same. -/
theorem words_perm {l m : List Cd} (p : l.Perm m) : words l = words m :=
  D.rise_ext (words_rise _) (words_rise _) fun x => by
    rw [mem_words, mem_words]
    exact ⟨fun ⟨c, hc, hx⟩ => ⟨c, p.subset hc, hx⟩, fun ⟨c, hc, hx⟩ => ⟨c, p.symm.subset hc, hx⟩⟩
end S
end Go.Proofs.Ytefnkbgkcjhkoaa

/-
  Slices whose elements have several cells ('Kl'), read and of the call's own; cards ('Cs'), words with their postings ('Ts'), segments ('Sv'). No function of the program is named here.
-/
namespace Go.Proofs.Ytefnkbgkcjhkoaa
set_option maxRecDepth 100000
open Go.RowKit

abbrev Pts := Option Addr × Nat × Nat
theorem sv_one (s : Pts) : (sv s).oneCell' = true := rfl

section
variable {α : Type} {f : α → List Value} {k : Nat}

theorem flat_len (hk : ∀ y, (f y).length = k) : ∀ l : List α, (l.flatMap f).length = l.length * k
  | [] => by simp
  | y :: l => by
    have := flat_len hk l
    simp only [List.flatMap_cons, List.length_append, hk, this, List.length_cons, Nat.add_mul, Nat.one_mul]
    omega

theorem flat_at (hk : ∀ y, (f y).length = k) : ∀ {l : List α} {i : Nat} {y : α}, l[i]? = some y → ∀ j, j < k → (l.flatMap f)[i * k + j]? = (f y)[j]?
  | [], i, y, h, _, _ => by simp at h
  | z :: l, i, y, h, j, hj => by
    rw [List.flatMap_cons]
    cases i with
    | zero =>
      simp at h
      subst h
      rw [Nat.zero_mul, Nat.zero_add, List.getElem?_append_left (by rw [hk]; exact hj)]
    | succ i =>
      rw [List.getElem?_append_right (by rw [hk, Nat.add_mul, Nat.one_mul]; omega), hk, show (i + 1) * k + j - k = i * k + j by rw [Nat.add_mul, Nat.one_mul]; omega]
      exact flat_at hk (by simpa using h) j hj

theorem flat_inv (hk : ∀ y, (f y).length = k) : ∀ {l : List α} {j : Nat} {u : Value}, (l.flatMap f)[j]? = some u → ∃ i y r, l[i]? = some y ∧ (f y)[r]? = some u ∧ j = i * k + r
  | [], j, u, h => by simp at h
  | z :: l, j, u, h => by
    rw [List.flatMap_cons] at h
    rcases Nat.lt_or_ge j k with h1 | h1
    · rw [List.getElem?_append_left (by rw [hk]; exact h1)] at h
      exact ⟨0, z, j, rfl, h, by omega⟩
    · rw [List.getElem?_append_right (by rw [hk]; exact h1), hk] at h
      obtain ⟨i, y, r, h2, h3, h4⟩ := flat_inv hk h
      exact ⟨i + 1, y, r, by simpa using h2, h3, by rw [Nat.add_mul, Nat.one_mul]; omega⟩

/-- The slice value v reads, in w, as l, each element of k cells as f has them. -/
def Kl (f : α → List Value) (k : Nat) (w : World) (v : Value) (l : List α) : Prop :=
  ∃ a cap, v = .slice a l.length cap ∧ l.length ≤ cap ∧ cap ≤ maxLen ∧ (a = none → cap = 0) ∧
    ∀ x, a = some x → ∀ i y, l[i]? = some y → ∀ j u, (f y)[j]? = some u → w.cell? (x.add (i * k + j)) = some u

theorem Kl.nil (f : α → List Value) (k : Nat) (w : World) : Kl f k w (.slice none 0 0) [] :=
  ⟨none, 0, rfl, Nat.le_refl _, Nat.zero_le _, fun _ => rfl, fun _ h => by cases h⟩

theorem Kl.below {w w' : World} {v : Value} {l : List α} (h : Kl f k w v l) (hb : Below w.heap.size w w') : Kl f k w' v l := by
  obtain ⟨a, cap, hv, hl, hm, hn, hc⟩ := h
  refine ⟨a, cap, hv, hl, hm, hn, fun x hx i y hi j u hu => ?_⟩
  have h0 := hc x hx i y hi j u hu
  rw [hb.cell (World.block_lt_of_cell? w _ h0)]
  exact h0

theorem Kl.open {w : World} {v : Value} {l : List α} (h : Kl f k w v l) (hk : ∀ y, (f y).length = k) (hk0 : 0 < k) :
    ∃ a cap, v = .slice a l.length cap ∧ l.length ≤ cap ∧ cap ≤ 9223372036854775807 ∧ (a = none → cap = 0) ∧
      (0 < l.length → ∃ b off, a = some ⟨b, off, none⟩ ∧ b < w.heap.size ∧ ∀ i y, l[i]? = some y → ∀ j u, (f y)[j]? = some u → w.cell? ⟨b, off + (i * k + j), none⟩ = some u) := by
  obtain ⟨a, cap, hv, hl, hm, hn, hc⟩ := h
  refine ⟨a, cap, hv, hl, hm, hn, fun hp => ?_⟩
  cases a with
  | none => have := hn rfl; omega
  | some x =>
    obtain ⟨b, off, spot⟩ := x
    have hz : 0 < (f l[0]).length := by rw [hk]; exact hk0
    have h0 := hc _ rfl 0 l[0] (List.getElem?_eq_getElem hp) 0 _ (List.getElem?_eq_getElem hz)
    have hs : spot = none := by simpa [Addr.add] using World.cell?_spot h0
    subst hs
    refine ⟨b, off, rfl, ?_, fun i y hi j u hu => by rw [← Addr.add_lit]; exact hc _ rfl i y hi j u hu⟩
    simpa [Addr.add] using World.block_lt_of_cell? w _ h0

theorem Kl.owned {w : World} {B : Nat} {e : TypeId} {v : Value} {l : List α} {n : Nat} (hk : ∀ y, (f y).length = k) (hk0 : 0 < k) (h : w.ownsRow B e k v n (l.flatMap f)) : Kl f k w v l := by
  have hl := h.1
  rw [flat_len hk] at hl
  have hl : l.length = n := Nat.eq_of_mul_eq_mul_right hk0 hl
  subst hl
  rcases id h.2 with ⟨rfl, h0⟩ | ⟨g, cap, cur, rfl, hb, hg, hn, hm, hs, ht⟩
  · have : l = [] := List.eq_nil_of_length_eq_zero h0
    subst this
    exact Kl.nil f k w
  · refine ⟨_, cap, rfl, hn, hm, (fun h => by cases h), fun x hx i y hi j u hu => ?_⟩
    obtain rfl := Option.some.inj hx
    have hj : j < k := by have := (List.getElem?_eq_some_iff.1 hu).1; rw [hk] at this; exact this
    exact h.cells (g := g) rfl (i * k + j) u (by rw [flat_at hk hi j hj]; exact hu)

/-- 'out = append(out, y)': the row, one longer; where it lies; what stays. -/
theorem append_oneF {P : Program} {ops : Array Oper} {rest : List Oper} {o : Oper} {a : Act} {Q : Exit → Act → World → Prop} {wr : World} (hgd : o.guard = none) (s x : Operand) (t : TypeId)
    (ho : o.op = .call { callee := .builtin .append, args := #[s, x], argTypes := #[t, t] }) {B : Nat} {e : TypeId} {i : TypeInfo} {z : Value} {bytes : Nat}
    (ht : P.underlying t = some (.slice e)) (hi : P.info? e = some i) (hz : i.zero = some z) (hsize : i.size = k) (hby : i.bytes = bytes) (hzs : z.cells.size = k) (hk0 : 0 < k)
    (hk : ∀ y, (f y).length = k) (hf : ∀ y, ∀ u ∈ f y, u.oneCell' = true) {pre : List α} (y : α) {cs : Array Value} (hcs : cs.toList = f y) {v : Value} (hs : a.eval s = v) {n : Nat} (hx : a.eval x = .slice (some ⟨n, 0, none⟩) 1 1) (hn : n = wr.heap.size)
    (hown : wr.ownsRow B e k v pre.length (pre.flatMap f)) (hB : B ≤ wr.heap.size) (hlen : pre.length < 4294967296) (hb8 : bytes ≤ 64)
    (h : ∀ g cap w', w'.ownsRow B e k (.slice (some ⟨g, 0, none⟩) (pre.length + 1) cap) (pre ++ [y]).length ((pre ++ [y]).flatMap f) → wr.grownBy w' v.ownBlock → (v.ownBlock = some g ∨ wr.heap.size ≤ g) → wpList P ops Q rest (a.put o.dst (.slice (some ⟨g, 0, none⟩) (pre.length + 1) cap)) w') :
    wpList P ops Q (o :: rest) a (wr.alloc (.cells cs e)) := by
  subst hn
  refine wpList_append_lies _ hgd s x t ho B e i z k bytes ht hi hz hsize hby hzs hk0 v pre.length _ hs (hown.alloc _) ⟨wr.heap.size, 0, none⟩ 1 1 (f y) hx (by rw [hk, Nat.one_mul]) ?_ (hf y) (by omega) ?_ ?_ ?_ (wr.heap.size + 1) (by simp) ?_
  · intro j u hj
    have : cs[j]? = some u := by rw [← Array.getElem?_toList, hcs]; exact hj
    rw [Addr.add_lit, Nat.zero_add]
    exact box_cell (heap_alloc_new wr _) this
  · unfold maxLen; omega
  · have h1 : (pre.length + 1) * bytes ≤ 4294967296 * 64 := Nat.mul_le_mul (by omega) hb8
    omega
  · simp; omega
  · intro g cap w1 hown' hg hat _
    refine h g cap w1 (by simpa using hown') ((World.grownBy_alloc _ _ _).trans hg) ?_
    rcases hat with h1 | h1
    · exact .inl h1
    · exact .inr (by omega)

/-- 'append(out, xs...)'. -/
theorem append_allF {P : Program} {ops : Array Oper} {rest : List Oper} {o : Oper} {a : Act} {Q : Exit → Act → World → Prop} {wr : World} (hgd : o.guard = none) (s x : Operand) (t : TypeId)
    (ho : o.op = .call { callee := .builtin .append, args := #[s, x], argTypes := #[t, t] }) {B : Nat} {e : TypeId} {i : TypeInfo} {z : Value} {bytes : Nat}
    (ht : P.underlying t = some (.slice e)) (hi : P.info? e = some i) (hz : i.zero = some z) (hsize : i.size = k) (hby : i.bytes = bytes) (hzs : z.cells.size = k) (hk0 : 0 < k)
    (hk : ∀ y, (f y).length = k) (hf : ∀ y, ∀ u ∈ f y, u.oneCell' = true) {pre zs : List α} {v u : Value} (hs : a.eval s = v) (hx : a.eval x = u) (hu : Kl f k wr u zs)
    (hown : wr.ownsRow B e k v pre.length (pre.flatMap f)) (hB : B ≤ wr.heap.size) (hlen : pre.length + zs.length ≤ 4294967296) (hb8 : bytes ≤ 64)
    (h : ∀ v' w', w'.ownsRow B e k v' (pre ++ zs).length ((pre ++ zs).flatMap f) → wr.grownBy w' v.ownBlock → wpList P ops Q rest (a.put o.dst v') w') :
    wpList P ops Q (o :: rest) a wr := by
  obtain ⟨ao, cap, rfl, hl, hm, hn, hc⟩ := hu
  cases ao with
  | none =>
    have hcap := hn rfl
    subst hcap
    have hz0 : zs = [] := List.eq_nil_of_length_eq_zero (by omega)
    subst hz0
    refine wpList_append_own_none hgd s x t ho B e i k ht hi v pre.length _ hs hown hx ?_
    exact h v wr (by simpa using hown) ⟨rfl, rfl, rfl, Nat.le_refl _, fun _ _ _ => rfl⟩
  | some ad =>
    refine wpList_append_own _ hgd s x t ho B e i z k bytes ht hi hz hsize hby hzs hk0 v pre.length _ hs hown ad zs.length cap (zs.flatMap f) hx (flat_len hk zs) ?_ ?_ ?_ ?_ hB ?_
    · intro j y hj
      obtain ⟨i', y', r, h1, h2, rfl⟩ := flat_inv hk hj
      exact hc ad rfl i' y' h1 r y h2
    · intro u hu
      obtain ⟨y, _, hy⟩ := List.mem_flatMap.1 hu
      exact hf y u hy
    · unfold maxLen; omega
    · have h1 : (pre.length + zs.length) * bytes ≤ 4294967296 * 64 := Nat.mul_le_mul hlen hb8
      omega
    · intro v' w1 hown' hg _
      exact h v' w1 (by simpa using hown') hg
end

/-- 'out = append(out, y)' at elements of one cell: the row, one longer; where it lies; what stays. -/
theorem append_oneL {α : Type} {f : α → Value} {P : Program} {ops : Array Oper} {rest : List Oper} {o : Oper} {a : Act} {Q : Exit → Act → World → Prop} {wr : World} (hgd : o.guard = none) (s x : Operand) (t : TypeId)
    (ho : o.op = .call { callee := .builtin .append, args := #[s, x], argTypes := #[t, t] }) {B : Nat} {e : TypeId} {i : TypeInfo} {z : Value} {bytes : Nat}
    (ht : P.underlying t = some (.slice e)) (hi : P.info? e = some i) (hz : i.zero = some z) (hsize : i.size = 1) (hby : i.bytes = bytes) (hzs : z.cells.size = 1)
    (hf : ∀ y, (f y).oneCell' = true) {pre : List α} (y : α) {v : Value} (hs : a.eval s = v) {n : Nat} (hx : a.eval x = .slice (some ⟨n, 0, none⟩) 1 1) (hn : n = wr.heap.size)
    (hown : wr.ownsRow B e 1 v pre.length (pre.map f)) (hB : B ≤ wr.heap.size) (hlen : (pre.length + 1) * bytes ≤ 140737488355328) (hlen2 : pre.length < 140737488355328)
    (h : ∀ g cap w', w'.ownsRow B e 1 (.slice (some ⟨g, 0, none⟩) (pre.length + 1) cap) (pre ++ [y]).length ((pre ++ [y]).map f) → wr.grownBy w' v.ownBlock → (v.ownBlock = some g ∨ wr.heap.size ≤ g) → wpList P ops Q rest (a.put o.dst (.slice (some ⟨g, 0, none⟩) (pre.length + 1) cap)) w') :
    wpList P ops Q (o :: rest) a (wr.alloc (.cells #[f y] e)) := by
  subst hn
  refine wpList_append_lies _ hgd s x t ho B e i z 1 bytes ht hi hz hsize hby hzs (by decide) v pre.length _ hs (hown.alloc _) ⟨wr.heap.size, 0, none⟩ 1 1 [f y] hx rfl ?_ ?_ (by omega) ?_ hlen ?_ (wr.heap.size + 1) (by simp) ?_
  · intro j u hj
    match j, hj with
    | 0, hj => simp at hj; subst hj; simp [Addr.add]
  · intro u hu; simp at hu; subst hu; exact hf y
  · unfold maxLen; omega
  · simp; omega
  · intro g cap w1 hown' hg hat _
    refine h g cap w1 (by simpa using hown') ((World.grownBy_alloc _ _ _).trans hg) ?_
    rcases hat with h1 | h1
    · exact .inl h1
    · exact .inr (by omega)

/-! ### Cards -/

/-- The three cells of a card, whose words lie where the slice says. -/
def encC (p : Cd × Pts) : List Value := [.string p.1.id, .int .i64 p.1.key, sv p.2]
theorem encC_len (p : Cd × Pts) : (encC p).length = 3 := rfl
theorem encC_one (p : Cd × Pts) : ∀ u ∈ encC p, u.oneCell' = true := by
  intro u hu
  simp only [encC, List.mem_cons, List.not_mem_nil, or_false] at hu
  rcases hu with rfl | rfl | rfl <;> rfl
theorem Try.infoC : (Try.prog.info? 30).map (fun i => (i.zero, i.size, i.bytes)) = some (some (.agg #[.string ⟨#[]⟩, .int .i64 0, .slice none 0 0]), 3, 48) := by kernel_rfl

/-- The words of each lie, in w, where its slice says. -/
def Ws (w : World) (ps : List (Cd × Pts)) : Prop := ∀ p ∈ ps, Gl .string w (sv p.2) p.1.w
theorem Ws.below {w w' : World} {ps : List (Cd × Pts)} (h : Ws w ps) (hb : Below w.heap.size w w') : Ws w' ps := fun p hp => (h p hp).below hb

/-- The slice value v reads, in w, as the cards L. -/
def Cs (w : World) (v : Value) (L : List Cd) : Prop := ∃ ps, Kl encC 3 w v ps ∧ ps.map (·.1) = L ∧ Ws w ps

theorem Cs.nil (w : World) : Cs w (.slice none 0 0) [] := ⟨[], Kl.nil _ _ _, rfl, fun p hp => by cases hp⟩
theorem Cs.below {w w' : World} {v : Value} {L : List Cd} (h : Cs w v L) (hb : Below w.heap.size w w') : Cs w' v L := by
  obtain ⟨ps, h1, h2, h3⟩ := h
  exact ⟨ps, h1.below hb, h2, h3.below hb⟩

theorem Cs.open {w : World} {v : Value} {L : List Cd} (h : Cs w v L) :
    ∃ a cap, v = .slice a L.length cap ∧ L.length ≤ cap ∧ cap ≤ 9223372036854775807 ∧ (a = none → cap = 0) ∧
      (0 < L.length → ∃ b off, a = some ⟨b, off, none⟩ ∧ b < w.heap.size ∧ ∀ i c, L[i]? = some c → ∃ wa wc, w.cell? ⟨b, off + i * 3, none⟩ = some (.string c.id) ∧ w.cell? ⟨b, off + i * 3 + 1, none⟩ = some (.int .i64 c.key) ∧
        w.cell? ⟨b, off + i * 3 + 2, none⟩ = some (.slice wa c.w.length wc) ∧ Gl .string w (.slice wa c.w.length wc) c.w) := by
  obtain ⟨ps, h1, rfl, h3⟩ := h
  obtain ⟨a, cap, rfl, hl, hm, hn, ho⟩ := h1.open encC_len (by decide)
  rw [List.length_map]
  refine ⟨a, cap, rfl, hl, hm, hn, fun hp => ?_⟩
  obtain ⟨b, off, rfl, hb, hc⟩ := ho hp
  refine ⟨b, off, rfl, hb, fun i c hi => ?_⟩
  rw [List.getElem?_map] at hi
  obtain ⟨p, hp', rfl⟩ := Option.map_eq_some_iff.1 hi
  have g := h3 p (List.mem_of_getElem? hp')
  obtain ⟨wa, wc, hv, -⟩ := id g
  have c0 := hc i p hp' 0 _ rfl
  have c1 := hc i p hp' 1 _ rfl
  have c2 := hc i p hp' 2 _ rfl
  rw [hv] at c2 g
  exact ⟨wa, wc, c0, c1, c2, g⟩

/-- Cards in a row of the call's own. -/
theorem Cs.own {w : World} {B n : Nat} {v : Value} {ps : List (Cd × Pts)} (h : w.ownsRow B 30 3 v n (ps.flatMap encC)) (hw : Ws w ps) : Cs w v (ps.map (·.1)) := ⟨ps, Kl.owned encC_len (by decide) h, rfl, hw⟩

/-! ### Words with their postings -/

structure Tm where
  t : ByteArray
  p : List Pt
/-- The two cells of a word, whose postings lie where the slice says. -/
def encT (p : Tm × Pts) : List Value := [.string p.1.t, sv p.2]
theorem encT_len (p : Tm × Pts) : (encT p).length = 2 := rfl
theorem encT_one (p : Tm × Pts) : ∀ u ∈ encT p, u.oneCell' = true := by
  intro u hu
  simp only [encT, List.mem_cons, List.not_mem_nil, or_false] at hu
  rcases hu with rfl | rfl <;> rfl
theorem Try.infoT : (Try.prog.info? 79).map (fun i => (i.zero, i.size, i.bytes)) = some (some (.agg #[.string ⟨#[]⟩, .slice none 0 0]), 2, 40) := by kernel_rfl

/-- The slice value v reads, in w, as the words L with their postings. -/
def Ts (w : World) (v : Value) (L : List Tm) : Prop := ∃ ps : List (Tm × Pts), Kl encT 2 w v ps ∧ ps.map (·.1) = L ∧ ∀ p ∈ ps, Pl w (sv p.2) p.1.p

theorem Ts.nil (w : World) : Ts w (.slice none 0 0) [] := ⟨[], Kl.nil _ _ _, rfl, fun p hp => by cases hp⟩
theorem Ts.below {w w' : World} {v : Value} {L : List Tm} (h : Ts w v L) (hb : Below w.heap.size w w') : Ts w' v L := by
  obtain ⟨ps, h1, h2, h3⟩ := h
  exact ⟨ps, h1.below hb, h2, fun p hp => (h3 p hp).below hb⟩

theorem Ts.open {w : World} {v : Value} {L : List Tm} (h : Ts w v L) :
    ∃ a cap, v = .slice a L.length cap ∧ L.length ≤ cap ∧ cap ≤ 9223372036854775807 ∧ (a = none → cap = 0) ∧
      (0 < L.length → ∃ b off, a = some ⟨b, off, none⟩ ∧ b < w.heap.size ∧ ∀ i c, L[i]? = some c → ∃ wa wc, w.cell? ⟨b, off + i * 2, none⟩ = some (.string c.t) ∧
        w.cell? ⟨b, off + i * 2 + 1, none⟩ = some (.slice wa c.p.length wc) ∧ Pl w (.slice wa c.p.length wc) c.p) := by
  obtain ⟨ps, h1, rfl, h3⟩ := h
  obtain ⟨a, cap, rfl, hl, hm, hn, ho⟩ := h1.open encT_len (by decide)
  rw [List.length_map]
  refine ⟨a, cap, rfl, hl, hm, hn, fun hp => ?_⟩
  obtain ⟨b, off, rfl, hb, hc⟩ := ho hp
  refine ⟨b, off, rfl, hb, fun i c hi => ?_⟩
  rw [List.getElem?_map] at hi
  obtain ⟨p, hp', rfl⟩ := Option.map_eq_some_iff.1 hi
  have g := h3 p (List.mem_of_getElem? hp')
  obtain ⟨wa, wc, hv, -⟩ := id g
  have c0 := hc i p hp' 0 _ rfl
  have c1 := hc i p hp' 1 _ rfl
  rw [hv] at c1 g
  exact ⟨wa, wc, c0, c1, g⟩

theorem Ts.own {w : World} {B n : Nat} {v : Value} {ps : List (Tm × Pts)} (h : w.ownsRow B 79 2 v n (ps.flatMap encT)) (hw : ∀ p ∈ ps, Pl w (sv p.2) p.1.p) : Ts w v (ps.map (·.1)) := ⟨ps, Kl.owned encT_len (by decide) h, rfl, hw⟩

/-! ### Segments -/

structure Sg where
  ids : List ByteArray
  keys : List Int
  lens : List Int
  ts : List Tm

/-- The four slices read, in w, as the parts of a segment. -/
def Sv (w : World) (iv kv lv tv : Value) (s : Sg) : Prop := Gl .string w iv s.ids ∧ Sl .i64 w kv s.keys ∧ Sl .i64 w lv s.lens ∧ Ts w tv s.ts
theorem Sv.below {w w' : World} {iv kv lv tv : Value} {s : Sg} (h : Sv w iv kv lv tv s) (hb : Below w.heap.size w w') : Sv w' iv kv lv tv s := ⟨h.1.below hb, h.2.1.below hb, h.2.2.1.below hb, h.2.2.2.below hb⟩
def Sg.none : Sg := ⟨[], [], [], []⟩
theorem Sv.none (w : World) : Sv w (.slice none 0 0) (.slice none 0 0) (.slice none 0 0) (.slice none 0 0) Sg.none := ⟨Gl.nil _ _, Sl.nil _ _, Sl.nil _ _, Ts.nil _⟩

namespace S
/-- The postings of a word, as the walks have them. -/
def pt (q : Int × List Int) : Pt := ⟨q.1, q.2⟩
def term (l : List Cd) (t : ByteArray) : Tm := ⟨t, (posts l t).map pt⟩
/-- The segment of cards. -/
def seg (l : List Cd) : Sg := ⟨l.map (·.id), l.map (·.key), l.map (fun c => (c.w.length : Int)), (words l).map (term l)⟩
end S
end Go.Proofs.Ytefnkbgkcjhkoaa

/-
  The contract of slices.Clone at cards.
-/
namespace Go.Proofs.Ytefnkbgkcjhkoaa
set_option maxRecDepth 100000
open Go.RowKit

set_option maxHeartbeats 1000000 in
theorem cloneC_any (v : Value) (ps : List (Cd × Pts)) (w : World) (h : Kl encC 3 w v ps) (hll : ps.length ≤ 1000000) :
    Calls Try.prog 47 #[v] w fun e w' => ∃ v', e = .returned v' ∧ w'.ownsRow w.heap.size 30 3 v' ps.length (ps.flatMap encC) ∧ Below w.heap.size w w' := by
  obtain ⟨i0, hi, hz0, hz1, hz2⟩ := info_parts Try.infoC
  have H := h
  obtain ⟨a, cap, rfl, hl, hm, hna, -⟩ := h
  have q : ∀ (w : World) (a : Option Addr) (n c n' c' : Nat), (binOp .eql 22 (.slice a n c) (.slice none n' c')).run Try.prog w = .ok (.bool a.isNone) w := fun w a n c n' c' => Lib.run_eql_slice_nil w _ _ a n c n' c' Try.underlying22
  cases a with
  | none =>
    have hl0 : ps = [] := List.eq_nil_of_length_eq_zero (by have := hna rfl; omega)
    subst hl0
    clear H
    go_enter Try.func47, Try.ntmps47
    go_wp2
    go_ret
    exact ⟨_, rfl, World.ownsRow_nil _ _ _ _, Below.refl _ _⟩
  | some x =>
    have H1 := H.below (below_alloc w (.cells #[] 30))
    have O1 := World.ownsRow_made (base := w.heap.size) (e := 30) (size := 3) w #[] 0 (Nat.le_refl _) (Nat.zero_le _) rfl
    have HK1 := hide H1
    clear H H1
    go_enter Try.func47, Try.ntmps47
    go_wp2_with (at_builtin; refine append_allF rfl _ _ 22 rfl Try.underlying22 hi hz0 hz1 hz2 rfl (by decide) encC_len encC_one (pre := []) rfl rfl (unhide HK1) O1 (by simp) (by simp; omega) (by decide) ?_; intro v1 w1 O2 g2)
    go_ret
    exact ⟨_, rfl, by simpa using O2, (below_alloc _ _).grown g2 (by simp) (fun j hj => (O1.lt j hj).1)⟩
end Go.Proofs.Ytefnkbgkcjhkoaa

/-
  The contracts of May, the program's and the document's own, and of the statements' own Few.
-/
namespace Go.Proofs.Ytefnkbgkcjhkoaa
set_option maxRecDepth 100000
open Go.RowKit

theorem drop_cons {α : Type} {l : List α} {k : Nat} {x : α} (h : l[k]? = some x) : l.drop k = x :: l.drop (k + 1) := by
  obtain ⟨hk, rfl⟩ := List.getElem?_eq_some_iff.1 h
  exact List.drop_eq_getElem_cons hk

theorem ret_int7 {a b : Int} (h : a = b) : Ending.returned (.int .i64 a) = .returned (.int .i64 b) := by rw [h]

theorem may_up_iff {l : List ByteArray} (h : l.length ≤ 200) : D.may l = D.up ⟨#[]⟩ l := by simp [D.may, h]
theorem may_long {l : List ByteArray} (h : 200 < l.length) : D.may l = false := by simp [D.may]; omega

set_option maxHeartbeats 1000000 in
theorem may_any (v : Value) (l : List ByteArray) (w : World) (h : Gl .string w v l) (r : Bool) (hr : D.may l = r) :
    Calls Try.prog 64 #[v] w fun e w' => e = .returned (.bool r) ∧ w' = w := by
  obtain ⟨a, cap, rfl, hl, hm, hna, ho⟩ := h.open
  clear h
  by_cases h2 : 200 < l.length
  · rw [may_long h2] at hr
    subst hr
    have g : (200 : Int) < (l.length : Int) := by omega
    clear ho
    go_enter Try.func64, Try.ntmps64
    go_wp2
    go_ret
    exact ⟨rfl, rfl⟩
  · rw [may_up_iff (by omega)] at hr
    have g : ¬ (200 : Int) < (l.length : Int) := by omega
    have HR := hide hr
    clear hr
    go_enter Try.func64, Try.ntmps64
    go_wp2
    go_loop [3, 11] (fun av iv => ∃ (k : Nat) (y : ByteArray), k ≤ l.length ∧ iv = .int .i64 k ∧ av = .string y ∧ Hid (D.up y (l.drop k) = r)) (fun _ iv => l.length - (intOf iv).toNat)
    case atStart => exact ⟨0, _, Nat.zero_le _, rfl, rfl, unhide HR⟩
    case round =>
      obtain ⟨k, y, hk, rfl, rfl, HK⟩ := hrel
      by_cases hlt : k < l.length
      · obtain ⟨b, off, rfl, hb, hc⟩ := ho (by omega)
        obtain ⟨x, hx⟩ : ∃ x, l[k]? = some x := ⟨l[k], List.getElem?_eq_getElem hlt⟩
        have c1 := hc k x hx
        have hs := unhide HK
        rw [drop_cons hx, D.up] at hs
        have hle := K.le_not x y
        clear ho hc hx HK
        cases hxy : K.lt y x with
        | false =>
          rw [hxy] at hle hs
          have HS : Hid (r = false) := by show _ = _; rw [← hs]; rfl
          clear hs
          go_wp2
          go_ret
          exact ⟨ret_bool (unhide HS).symm, rfl⟩
        | true =>
          rw [hxy] at hle hs
          by_cases h3 : 32 < x.size
          · have g3 : (32 : Int) < (x.size : Int) := by omega
            have HS : Hid (r = false) := by show _ = _; rw [← hs]; simp; omega
            clear hs
            go_wp2
            go_ret
            exact ⟨ret_bool (unhide HS).symm, rfl⟩
          · have g3 : ¬ (32 : Int) < (x.size : Int) := by omega
            have HS : Hid (D.up x (l.drop (k + 1)) = r) := by show _ = _; rw [← hs]; simp; omega
            clear hs
            go_wp2
            go_round
            case rel => exact ⟨k + 1, x, by omega, by go_num, rfl, unhide HS⟩
            case measure => simp [intOf]; omega
      · have HS : Hid (r = true) := by
          show _ = _
          rw [← unhide HK, List.drop_eq_nil_of_le (by omega)]
          rfl
        go_wp2
        go_ret
        exact ⟨ret_bool (unhide HS).symm, rfl⟩

/-- The one ahead. -/
def D.prev (l : List ByteArray) : Nat → ByteArray
  | 0 => ⟨#[]⟩
  | k + 1 => l.getD k ⟨#[]⟩
theorem D.prev_succ {l : List ByteArray} {k : Nat} {x : ByteArray} (h : l[k]? = some x) : D.prev l (k + 1) = x := by simp [D.prev, List.getD, h]

/-- At most 210 words, of at most 40 bytes each. -/
def D.few (l : List ByteArray) : Bool := decide (l.length ≤ 210) && l.all fun x => decide (x.size ≤ 40)
theorem D.few_len {l : List ByteArray} (h : D.few l = true) : l.length ≤ 210 := by
  simp only [D.few, Bool.and_eq_true, decide_eq_true_eq] at h
  exact h.1
theorem D.few_size {l : List ByteArray} (h : D.few l = true) : ∀ x ∈ l, x.size ≤ 40 := by
  simp only [D.few, Bool.and_eq_true, List.all_eq_true, decide_eq_true_eq] at h
  exact h.2

end Go.Proofs.Ytefnkbgkcjhkoaa

/-
  The contracts of BinarySearch at texts, and of Find and Below, the program's and the document's own.
-/
namespace Go.Proofs.Ytefnkbgkcjhkoaa
set_option maxRecDepth 100000
open Go.RowKit

theorem cnan_any (x : ByteArray) (w : World) : Calls Try.prog 70 #[.string x] w fun e w' => e = .returned (.bool false) ∧ w' = w := by
  have hx : (x.toList == x.toList) = true := by simp
  go_enter Try.func70, Try.ntmps70
  go_wp2
  go_ret
  exact ⟨by simp, rfl⟩

theorem less7_any (x y : ByteArray) (w : World) (r : Bool) (hr : K.lt x y = r) : Calls Try.prog 90 #[.string x, .string y] w fun e w' => e = .returned (.bool r) ∧ w' = w := by
  have HR := hide hr
  clear hr
  go_enter Try.func90, Try.ntmps90
  go_wp2_with (go_at_call 70; refine (cnan_any _ _).mono ?_; rintro e w' ⟨rfl, rfl⟩)
  go_ret
  exact ⟨by rw [← unhide HR]; rfl, rfl⟩

end Go.Proofs.Ytefnkbgkcjhkoaa

/-
  The plain mathematics of layer 13: cards by their ids; what is put, deleted, found. No program is named here.
-/
namespace Go.Proofs.Ytefnkbgkcjhkoaa
set_option maxRecDepth 100000

namespace H
/-- Each id above the ones ahead. -/
def Up (l : List Cd) : Prop := l.Pairwise fun a b => K.lt a.id b.id = true
def rise : List Cd → Bool
  | [] => true
  | [_] => true
  | a :: b :: r => K.lt a.id b.id && rise (b :: r)

theorem rise_up : ∀ {l : List Cd}, rise l = true ↔ Up l
  | [] => by simp [rise, Up]
  | [a] => by simp [rise, Up]
  | a :: b :: r => by
    have ih := rise_up (l := b :: r)
    rw [rise, Bool.and_eq_true, ih]
    constructor
    · rintro ⟨h1, h2⟩
      refine List.pairwise_cons.2 ⟨fun x hx => ?_, h2⟩
      rcases List.mem_cons.1 hx with rfl | hx
      · exact h1
      · exact K.lt_trans h1 ((List.pairwise_cons.1 h2).1 x hx)
    · intro h
      obtain ⟨h1, h2⟩ := List.pairwise_cons.1 h
      exact ⟨h1 b (List.mem_cons_self ..), h2⟩

/-- One place where an id is not above the one ahead. -/
theorem rise_no {l : List Cd} {i : Nat} {a b : Cd} (ha : l[i]? = some a) (hb : l[i + 1]? = some b) (h : K.lt a.id b.id = false) : rise l = false := by
  cases hr : rise l with
  | false => rfl
  | true =>
    have hu := rise_up.1 hr
    obtain ⟨h1, e1⟩ := List.getElem?_eq_some_iff.1 ha
    obtain ⟨h2, e2⟩ := List.getElem?_eq_some_iff.1 hb
    have := List.pairwise_iff_getElem.1 hu i (i + 1) h1 h2 (by omega)
    rw [e1, e2, h] at this
    cases this
theorem rise_yes : ∀ {l : List Cd}, (∀ i a b, l[i]? = some a → l[i + 1]? = some b → K.lt a.id b.id = true) → rise l = true
  | [], _ => rfl
  | [_], _ => rfl
  | a :: b :: r, h => by
    rw [rise, h 0 a b rfl rfl, Bool.true_and]
    exact rise_yes fun i x y hx hy => h (i + 1) x y (by simpa using hx) (by simpa using hy)

def may (l : List Cd) : Bool := decide (l.length ≤ 1100) && (l.all S.fits && rise l)
theorem may_iff {l : List Cd} : may l = true ↔ l.length ≤ 1100 ∧ (∀ c ∈ l, S.fits c = true) ∧ Up l := by
  rw [may, Bool.and_eq_true, Bool.and_eq_true, decide_eq_true_eq, List.all_eq_true, rise_up]
theorem may_up {l : List Cd} (h : may l = true) : Up l := (may_iff.1 h).2.2

theorem Up.unlike {l : List Cd} (h : Up l) : S.Unlike l := h.imp fun hab => K.lt_ne hab
theorem Up.nodup {l : List Cd} (h : Up l) : (l.map (·.id)).Nodup := by
  rw [List.Nodup, List.pairwise_map]
  exact h.imp fun hab => K.lt_ne hab

theorem up_ext : ∀ {l m : List Cd}, Up l → Up m → (∀ x, x ∈ l ↔ x ∈ m) → l = m
  | [], [], _, _, _ => rfl
  | [], y :: m, _, _, h => by have := (h y).2 (List.mem_cons_self ..); cases this
  | x :: l, [], _, _, h => by have := (h x).1 (List.mem_cons_self ..); cases this
  | x :: l, y :: m, hl, hm, h => by
    obtain ⟨l1, l2⟩ := List.pairwise_cons.1 hl
    obtain ⟨m1, m2⟩ := List.pairwise_cons.1 hm
    have e : x = y := by
      rcases List.mem_cons.1 ((h x).1 (List.mem_cons_self ..)) with e | hx
      · exact e
      · rcases List.mem_cons.1 ((h y).2 (List.mem_cons_self ..)) with e | hy
        · exact e.symm
        · have a1 := m1 x hx
          have a2 := K.lt_asymm (l1 y hy)
          rw [a1] at a2
          cases a2
    subst e
    rw [up_ext l2 m2 fun z => ?_]
    constructor
    · intro hz
      rcases List.mem_cons.1 ((h z).1 (List.mem_cons_of_mem _ hz)) with e | hz'
      · subst e
        have := l1 z hz
        rw [K.lt_irrefl] at this
        cases this
      · exact hz'
    · intro hz
      rcases List.mem_cons.1 ((h z).2 (List.mem_cons_of_mem _ hz)) with e | hz'
      · subst e
        have := m1 z hz
        rw [K.lt_irrefl] at this
        cases this
      · exact hz'

/-- One id, one card. -/
theorem Up.one {l : List Cd} (h : Up l) {x y : Cd} (hx : x ∈ l) (hy : y ∈ l) (e : x.id = y.id) : x = y := by
  obtain ⟨i, hi, rfl⟩ := List.getElem_of_mem hx
  obtain ⟨j, hj, rfl⟩ := List.getElem_of_mem hy
  have key := List.pairwise_iff_getElem.1 h
  rcases Nat.lt_trichotomy i j with g | g | g
  · have := key i j hi hj g
    rw [e, K.lt_irrefl] at this
    cases this
  · subst g; rfl
  · have := key j i hj hi g
    rw [e, K.lt_irrefl] at this
    cases this

def low (l : List Cd) (id : ByteArray) : List Cd := l.filter fun c => K.lt c.id id
def high (l : List Cd) (id : ByteArray) : List Cd := l.filter fun c => K.lt id c.id
def has (l : List Cd) (id : ByteArray) : Bool := l.any fun c => decide (c.id = id)
def put (l : List Cd) (c : Cd) : List Cd := low l c.id ++ c :: high l c.id
def del (l : List Cd) (id : ByteArray) : List Cd := l.filter fun c => decide (c.id ≠ id)
/-- The place of the card of an id; -1, if there is none. -/
def find (l : List Cd) (id : ByteArray) : Int := if may l = true ∧ has l id = true then ((low l id).length : Int) else -1
def putE (l : List Cd) (c : Cd) : Int := if may l = true ∧ S.fits c = true then (if has l c.id = true ∨ l.length < 1100 then 0 else 4) else 1
def putA (l : List Cd) (c : Cd) : List Cd := if putE l c = 0 then put l c else l
def delB (l : List Cd) (id : ByteArray) : Bool := may l && has l id
def delA (l : List Cd) (id : ByteArray) : List Cd := if delB l id = true then del l id else l
def keyed (l : List Cd) : List Cd := if may l = true then S.srt l else []

theorem ne_lt {a b : ByteArray} : a ≠ b ↔ K.lt a b = true ∨ K.lt b a = true := by
  constructor
  · intro h
    cases h1 : K.lt a b with
    | true => exact .inl rfl
    | false =>
      cases h2 : K.lt b a with
      | true => exact .inr rfl
      | false => exact absurd (K.lt_tri h1 h2) h
  · rintro (h | h)
    · exact K.lt_ne h
    · exact (K.lt_ne h).symm

theorem has_iff {l : List Cd} {id : ByteArray} : has l id = true ↔ ∃ c ∈ l, c.id = id := by
  rw [has, List.any_eq_true]
  simp
theorem mem_low {l : List Cd} {id : ByteArray} {x : Cd} : x ∈ low l id ↔ x ∈ l ∧ K.lt x.id id = true := by rw [low, List.mem_filter]
theorem mem_high {l : List Cd} {id : ByteArray} {x : Cd} : x ∈ high l id ↔ x ∈ l ∧ K.lt id x.id = true := by rw [high, List.mem_filter]
theorem mem_del {l : List Cd} {id : ByteArray} {x : Cd} : x ∈ del l id ↔ x ∈ l ∧ x.id ≠ id := by rw [del, List.mem_filter, decide_eq_true_eq]
theorem mem_put {l : List Cd} {c x : Cd} : x ∈ put l c ↔ x = c ∨ (x ∈ l ∧ x.id ≠ c.id) := by
  rw [put, List.mem_append, List.mem_cons, mem_low, mem_high, ne_lt]
  constructor
  · rintro (⟨h1, h2⟩ | h | ⟨h1, h2⟩)
    · exact .inr ⟨h1, .inl h2⟩
    · exact .inl h
    · exact .inr ⟨h1, .inr h2⟩
  · rintro (h | ⟨h1, h2 | h2⟩)
    · exact .inr (.inl h)
    · exact .inl ⟨h1, h2⟩
    · exact .inr (.inr ⟨h1, h2⟩)

theorem filter_none {α : Type} {p : α → Bool} {l : List α} (h : ∀ x ∈ l, p x = false) : l.filter p = [] := by
  rw [List.filter_eq_nil_iff]
  intro x hx
  rw [h x hx]
  decide
theorem filter_all {α : Type} {p : α → Bool} {l : List α} (h : ∀ x ∈ l, p x = true) : l.filter p = l := List.filter_eq_self.2 h

/-- A shelf, parted at an id. -/
theorem split : ∀ {l : List Cd} (_ : Up l) (id : ByteArray), (has l id = true ∧ ∃ x, x.id = id ∧ l = low l id ++ x :: high l id) ∨ (has l id = false ∧ l = low l id ++ high l id)
  | [], _, id => .inr ⟨rfl, rfl⟩
  | y :: r, h, id => by
    obtain ⟨h1, h2⟩ := List.pairwise_cons.1 h
    cases hy : K.lt y.id id with
    | true =>
      have e1 : low (y :: r) id = y :: low r id := by rw [low, List.filter_cons, if_pos hy]; rfl
      have e2 : high (y :: r) id = high r id := by rw [high, List.filter_cons, if_neg (by rw [K.lt_asymm hy]; decide)]; rfl
      have e3 : has (y :: r) id = has r id := by
        rw [has, List.any_cons, decide_eq_false (K.lt_ne hy), Bool.false_or]; rfl
      rw [e1, e2, e3]
      rcases split h2 id with ⟨g, x, gx, e⟩ | ⟨g, e⟩
      · exact .inl ⟨g, x, gx, by rw [List.cons_append, ← e]⟩
      · exact .inr ⟨g, by rw [List.cons_append, ← e]⟩
    | false =>
      by_cases hid : y.id = id
      · subst hid
        refine .inl ⟨by rw [has, List.any_cons]; simp, y, rfl, ?_⟩
        have e1 : low (y :: r) y.id = [] := by
          rw [low, List.filter_cons, if_neg (by rw [hy]; decide)]
          exact filter_none fun x hx => K.lt_asymm (h1 x hx)
        have e2 : high (y :: r) y.id = r := by
          rw [high, List.filter_cons, if_neg (by rw [hy]; decide)]
          exact filter_all fun x hx => h1 x hx
        rw [e1, e2]
        rfl
      · have hlt : K.lt id y.id = true := by
          rcases ne_lt.1 hid with g | g
          · rw [hy] at g; cases g
          · exact g
        have all : ∀ x ∈ r, K.lt id x.id = true := fun x hx => K.lt_trans hlt (h1 x hx)
        refine .inr ⟨?_, ?_⟩
        · rw [has, List.any_cons, decide_eq_false hid, Bool.false_or, ← Bool.not_eq_true, List.any_eq_true]
          rintro ⟨x, hx, e⟩
          rw [decide_eq_true_eq] at e
          have := all x hx
          rw [e, K.lt_irrefl] at this
          cases this
        · have e1 : low (y :: r) id = [] := by
            rw [low, List.filter_cons, if_neg (by rw [hy]; decide)]
            exact filter_none fun x hx => K.lt_asymm (all x hx)
          have e2 : high (y :: r) id = y :: r := by
            rw [high, List.filter_cons, if_pos hlt, filter_all all]
          rw [e1, e2]
          rfl

theorem low_up {l : List Cd} (h : Up l) (id : ByteArray) : Up (low l id) := List.Pairwise.sublist List.filter_sublist h
theorem high_up {l : List Cd} (h : Up l) (id : ByteArray) : Up (high l id) := List.Pairwise.sublist List.filter_sublist h
theorem del_up {l : List Cd} (h : Up l) (id : ByteArray) : Up (del l id) := List.Pairwise.sublist List.filter_sublist h
theorem put_up {l : List Cd} (h : Up l) (c : Cd) : Up (put l c) := by
  refine List.pairwise_append.2 ⟨low_up h _, List.pairwise_cons.2 ⟨fun x hx => (mem_high.1 hx).2, high_up h _⟩, fun a ha b hb => ?_⟩
  have g := (mem_low.1 ha).2
  rcases List.mem_cons.1 hb with rfl | hb
  · exact g
  · exact K.lt_trans g (mem_high.1 hb).2
theorem del_parts {l : List Cd} (h : Up l) (id : ByteArray) : del l id = low l id ++ high l id := by
  refine up_ext (del_up h id) ?_ fun x => ?_
  · refine List.pairwise_append.2 ⟨low_up h _, high_up h _, fun a ha b hb => K.lt_trans (mem_low.1 ha).2 (mem_high.1 hb).2⟩
  · rw [mem_del, List.mem_append, mem_low, mem_high, ne_lt]
    constructor
    · rintro ⟨h1, h2 | h2⟩
      · exact .inl ⟨h1, h2⟩
      · exact .inr ⟨h1, h2⟩
    · rintro (⟨h1, h2⟩ | ⟨h1, h2⟩)
      · exact ⟨h1, .inl h2⟩
      · exact ⟨h1, .inr h2⟩

/-- A card of that id stands at its place. -/
theorem at_has {l : List Cd} (h : Up l) {id : ByteArray} (hh : has l id = true) : ∃ x, x.id = id ∧ l[(low l id).length]? = some x ∧ x ∈ l := by
  rcases split h id with ⟨_, x, hx, e⟩ | ⟨g, _⟩
  · have e2 : l[(low l id).length]? = some x := by
      rw [e]
      have : (low (low l id ++ x :: high l id) id).length = (low l id).length := by rw [← e]
      rw [this, List.getElem?_append_right (Nat.le_refl _), Nat.sub_self]
      rfl
    exact ⟨x, hx, e2, List.mem_of_getElem? e2⟩
  · rw [hh] at g; cases g
theorem at_not {l : List Cd} {id : ByteArray} (hh : has l id = false) {x : Cd} (hx : l[(low l id).length]? = some x) : x.id ≠ id := fun e => by
  have : has l id = true := has_iff.2 ⟨x, List.mem_of_getElem? hx, e⟩
  rw [hh] at this
  cases this
theorem low_le (l : List Cd) (id : ByteArray) : (low l id).length ≤ l.length := List.length_filter_le _ _
theorem has_lt {l : List Cd} (h : Up l) {id : ByteArray} (hh : has l id = true) : (low l id).length < l.length := by
  obtain ⟨x, _, e, _⟩ := at_has h hh
  exact (List.getElem?_eq_some_iff.1 e).1
theorem put_has {l : List Cd} (h : Up l) {c : Cd} (hh : has l c.id = true) : put l c = l.set (low l c.id).length c := by
  rcases split h c.id with ⟨_, x, _, e⟩ | ⟨g, _⟩
  · have e2 : ∀ (A D : List Cd), (A ++ x :: D).set A.length c = A ++ c :: D := fun A D => by simp
    have := e2 (low l c.id) (high l c.id)
    rw [← e] at this
    rw [this, put]
  · rw [hh] at g; cases g
theorem put_not {l : List Cd} (h : Up l) {c : Cd} (hh : has l c.id = false) : put l c = l.take (low l c.id).length ++ c :: l.drop (low l c.id).length := by
  rcases split h c.id with ⟨g, _⟩ | ⟨_, e⟩
  · rw [hh] at g; cases g
  · have e1 : l.take (low l c.id).length = low l c.id := by
      have : ∀ (A D : List Cd), (A ++ D).take A.length = A := fun A D => by simp
      have := this (low l c.id) (high l c.id)
      rwa [← e] at this
    have e2 : l.drop (low l c.id).length = high l c.id := by
      have : ∀ (A D : List Cd), (A ++ D).drop A.length = D := fun A D => by simp
      have := this (low l c.id) (high l c.id)
      rwa [← e] at this
    rw [e1, e2, put]
theorem del_has {l : List Cd} (h : Up l) {id : ByteArray} (hh : has l id = true) : del l id = l.take (low l id).length ++ l.drop ((low l id).length + 1) := by
  rcases split h id with ⟨_, x, _, e⟩ | ⟨g, _⟩
  · have e1 : l.take (low l id).length = low l id := by
      have : ∀ (A D : List Cd), (A ++ x :: D).take A.length = A := fun A D => by simp
      have := this (low l id) (high l id)
      rwa [← e] at this
    have e2 : l.drop ((low l id).length + 1) = high l id := by
      have : ∀ (A D : List Cd), (A ++ x :: D).drop (A.length + 1) = D := fun A D => by
        rw [← List.drop_drop, List.drop_left]
        rfl
      have := this (low l id) (high l id)
      rwa [← e] at this
    rw [e1, e2, del_parts h]
  · rw [hh] at g; cases g
theorem put_len {l : List Cd} (h : Up l) (c : Cd) : (put l c).length = if has l c.id = true then l.length else l.length + 1 := by
  cases hh : has l c.id with
  | true => rw [put_has h hh, List.length_set]; simp
  | false =>
    have := low_le l c.id
    rw [put_not h hh]
    simp
    omega
theorem del_len {l : List Cd} (h : Up l) {id : ByteArray} (hh : has l id = true) : (del l id).length = l.length - 1 := by
  have := has_lt h hh
  rw [del_has h hh]
  simp
  omega
theorem del_le (l : List Cd) (id : ByteArray) : (del l id).length ≤ l.length := List.length_filter_le _ _
theorem put_le {l : List Cd} (h : Up l) (c : Cd) : l.length ≤ (put l c).length ∧ (put l c).length ≤ l.length + 1 := by
  rw [put_len h]
  split <;> omega
theorem has_put (l : List Cd) (c : Cd) : has (put l c) c.id = true := has_iff.2 ⟨c, mem_put.2 (.inl rfl), rfl⟩
theorem has_del (l : List Cd) (id : ByteArray) : has (del l id) id = false := by
  rw [← Bool.not_eq_true, has_iff]
  rintro ⟨x, hx, e⟩
  exact (mem_del.1 hx).2 e

theorem may_put {l : List Cd} {c : Cd} (h : may l = true) (hc : S.fits c = true) (hl : has l c.id = true ∨ l.length < 1100) : may (put l c) = true := by
  obtain ⟨h1, h2, h3⟩ := may_iff.1 h
  refine may_iff.2 ⟨?_, fun x hx => ?_, put_up h3 c⟩
  · rw [put_len h3]
    split
    · exact h1
    · rcases hl with g | g
      · contradiction
      · omega
  · rcases mem_put.1 hx with rfl | ⟨g, _⟩
    · exact hc
    · exact h2 x g
theorem may_del {l : List Cd} (h : may l = true) (id : ByteArray) : may (del l id) = true := by
  obtain ⟨h1, h2, h3⟩ := may_iff.1 h
  exact may_iff.2 ⟨Nat.le_trans (del_le l id) h1, fun x hx => h2 x (mem_del.1 hx).1, del_up h3 id⟩

theorem putE_ok {l : List Cd} {c : Cd} : putE l c = 0 ↔ may l = true ∧ S.fits c = true ∧ (has l c.id = true ∨ l.length < 1100) := by
  unfold putE
  split
  · rename_i h
    split
    · rename_i g
      simp [h, g]
    · rename_i g
      constructor
      · intro e; cases e
      · intro e; exact absurd e.2.2 g
  · rename_i h
    constructor
    · intro e; cases e
    · intro e; exact absurd ⟨e.1, e.2.1⟩ h
theorem putA_ok {l : List Cd} {c : Cd} (h : putE l c = 0) : putA l c = put l c := if_pos h
theorem putA_no {l : List Cd} {c : Cd} (h : putE l c ≠ 0) : putA l c = l := if_neg h
theorem may_putA {l : List Cd} {c : Cd} (h : may l = true) : may (putA l c) = true := by
  unfold putA
  split
  · rename_i g
    obtain ⟨h1, h2, h3⟩ := putE_ok.1 g
    exact may_put h1 h2 h3
  · exact h
theorem may_delA {l : List Cd} {id : ByteArray} (h : may l = true) : may (delA l id) = true := by
  unfold delA
  split
  · exact may_del h id
  · exact h
theorem find_neg {l : List Cd} {id : ByteArray} (h : delB l id = false) : find l id = -1 := by
  unfold find
  refine if_neg fun g => ?_
  rw [delB, g.1, g.2] at h
  cases h
theorem find_pos {l : List Cd} {id : ByteArray} (h : delB l id = true) : find l id = ((low l id).length : Int) := by
  rw [delB, Bool.and_eq_true] at h
  exact if_pos h

/-- In whatever order two cards of unlike ids are put. -/
theorem put_turn {l : List Cd} (h : Up l) {c d : Cd} (hn : c.id ≠ d.id) : put (put l c) d = put (put l d) c := by
  refine up_ext (put_up (put_up h c) d) (put_up (put_up h d) c) fun x => ?_
  rw [mem_put, mem_put, mem_put, mem_put]
  constructor
  · rintro (rfl | ⟨rfl | ⟨h1, h2⟩, h3⟩)
    · exact .inr ⟨.inl rfl, fun e => hn e.symm⟩
    · exact .inl rfl
    · exact .inr ⟨.inr ⟨h1, h3⟩, h2⟩
  · rintro (rfl | ⟨rfl | ⟨h1, h2⟩, h3⟩)
    · exact .inr ⟨.inl rfl, hn⟩
    · exact .inl rfl
    · exact .inr ⟨.inr ⟨h1, h3⟩, h2⟩
theorem put_twice {l : List Cd} (h : Up l) {c d : Cd} (he : c.id = d.id) : put (put l c) d = put l d := by
  refine up_ext (put_up (put_up h c) d) (put_up h d) fun x => ?_
  rw [mem_put, mem_put, mem_put]
  constructor
  · rintro (rfl | ⟨rfl | ⟨h1, h2⟩, h3⟩)
    · exact .inl rfl
    · exact absurd he h3
    · exact .inr ⟨h1, h3⟩
  · rintro (rfl | ⟨h1, h2⟩)
    · exact .inl rfl
    · exact .inr ⟨.inr ⟨h1, fun e => h2 (e.trans he)⟩, h2⟩
theorem del_put {l : List Cd} (h : Up l) (c : Cd) : del (put l c) c.id = del l c.id := by
  refine up_ext (del_up (put_up h c) _) (del_up h _) fun x => ?_
  rw [mem_del, mem_put, mem_del]
  constructor
  · rintro ⟨rfl | ⟨h1, h2⟩, h3⟩
    · exact absurd rfl h3
    · exact ⟨h1, h3⟩
  · rintro ⟨h1, h2⟩
    exact ⟨.inr ⟨h1, h2⟩, h2⟩
theorem has_del_ne {l : List Cd} {i j : ByteArray} (h : j ≠ i) : has (del l i) j = has l j := by
  rw [Bool.eq_iff_iff, has_iff, has_iff]
  constructor
  · rintro ⟨x, hx, e⟩
    exact ⟨x, (mem_del.1 hx).1, e⟩
  · rintro ⟨x, hx, e⟩
    exact ⟨x, mem_del.2 ⟨hx, fun e2 => h (e.symm.trans e2)⟩, e⟩
/-- What is found behind a delete, of another id, is the card that it was. -/
theorem found_same {l : List Cd} (h : Up l) {i j : ByteArray} (hn : j ≠ i) {x y : Cd} (hx : l[(low l j).length]? = some x) (hh : has l j = true) (hy : (del l i)[(low (del l i) j).length]? = some y) : x = y := by
  obtain ⟨x', hxi, e1, _⟩ := at_has h hh
  rw [hx] at e1
  cases e1
  obtain ⟨y', hyi, e2, hm⟩ := at_has (del_up h i) (id := j) (by rw [has_del_ne hn]; exact hh)
  rw [hy] at e2
  cases e2
  exact h.one (List.mem_of_getElem? hx) (mem_del.1 hm).1 (hxi.trans hyi.symm)

/-! ### By halves -/

/-- Where what is asked begins to be so. -/
theorem cut_at {l : List Cd} {so : Cd → Bool} {k : Nat} (ha : ∀ i x, i < k → l[i]? = some x → so x = false) (hb : ∀ i x, k ≤ i → l[i]? = some x → so x = true) : l.filter (fun c => !so c) = l.take k := by
  conv => lhs; rw [← List.take_append_drop k l]
  rw [List.filter_append]
  have e1 : (l.take k).filter (fun c => !so c) = l.take k := filter_all fun x hx => by
    obtain ⟨i, hi⟩ := List.mem_iff_getElem?.1 hx
    rw [List.getElem?_take] at hi
    split at hi
    · rename_i h1
      rw [ha i x h1 hi]; rfl
    · cases hi
  have e2 : (l.drop k).filter (fun c => !so c) = [] := filter_none fun x hx => by
    obtain ⟨i, hi⟩ := List.mem_iff_getElem?.1 hx
    rw [List.getElem?_drop] at hi
    rw [hb (k + i) x (by omega) hi]; rfl
  rw [e1, e2, List.append_nil]

/-- Once it is so, it stays so. -/
def Once (so : Cd → Bool) (l : List Cd) : Prop := ∀ (i j : Nat) (x y : Cd), i ≤ j → l[i]? = some x → l[j]? = some y → so x = true → so y = true
def cut (so : Cd → Bool) (l : List Cd) : Nat := (l.filter fun c => !so c).length

def geq (id : ByteArray) (c : Cd) : Bool := !K.lt c.id id
theorem geq_once {l : List Cd} (h : Up l) (id : ByteArray) : Once (geq id) l := fun i j x y hij hx hy hs => by
  obtain ⟨h1, e1⟩ := List.getElem?_eq_some_iff.1 hx
  obtain ⟨h2, e2⟩ := List.getElem?_eq_some_iff.1 hy
  rcases Nat.lt_or_ge i j with g | g
  · have := List.pairwise_iff_getElem.1 h i j h1 h2 g
    rw [e1, e2] at this
    unfold geq at *
    cases hyid : K.lt y.id id with
    | false => rfl
    | true =>
      have := K.lt_trans this hyid
      rw [this] at hs
      cases hs
  · obtain rfl : i = j := by omega
    rw [hx] at hy
    cases hy
    exact hs
theorem cut_geq (l : List Cd) (id : ByteArray) : cut (geq id) l = (low l id).length := by
  unfold cut geq low
  simp

theorem bef_once {l : List Cd} (h : S.Up l) (c : Cd) : Once (S.before c) l := fun i j x y hij hx hy hs => by
  obtain ⟨h1, e1⟩ := List.getElem?_eq_some_iff.1 hx
  obtain ⟨h2, e2⟩ := List.getElem?_eq_some_iff.1 hy
  rcases Nat.lt_or_ge i j with g | g
  · have := List.pairwise_iff_getElem.1 h i j h1 h2 g
    rw [e1, e2] at this
    exact S.before_trans hs this
  · obtain rfl : i = j := by omega
    rw [hx] at hy
    cases hy
    exact hs
theorem cut_le (so : Cd → Bool) (l : List Cd) : cut so l ≤ l.length := List.length_filter_le _ _
theorem cut_low {so : Cd → Bool} {l : List Cd} (h : Once so l) : ∀ i x, l[i]? = some x → (so x = false ↔ i < cut so l) := by
  intro i x hx
  have key : ∃ k, k ≤ l.length ∧ (∀ i x, i < k → l[i]? = some x → so x = false) ∧ (∀ i x, k ≤ i → l[i]? = some x → so x = true) := by
    refine ⟨l.findIdx so, List.findIdx_le_length, fun i x hi hx => ?_, fun i x hi hx => ?_⟩
    · have := List.not_of_lt_findIdx hi
      have e := (List.getElem?_eq_some_iff.1 hx).2
      rw [← e]
      simpa using this
    · have hl : l.findIdx so < l.length := Nat.lt_of_le_of_lt hi (List.getElem?_eq_some_iff.1 hx).1
      exact h (l.findIdx so) i _ x hi (List.getElem?_eq_getElem hl) hx List.findIdx_getElem
  obtain ⟨k, hk, ha, hb⟩ := key
  have e : cut so l = k := by unfold cut; rw [cut_at ha hb, List.length_take]; omega
  rw [e]
  constructor
  · intro hs
    rcases Nat.lt_or_ge i k with g | g
    · exact g
    · rw [hb i x g hx] at hs; cases hs
  · intro g
    exact ha i x g hx
/-- A card put among such as are in order, at the place that was looked for by halves. -/
theorem ins_cut {l : List Cd} {c : Cd} (h : S.Up l) (hu : ∀ x ∈ l, x.id ≠ c.id) : S.ins l c = l.take (cut (S.before c) l) ++ c :: l.drop (cut (S.before c) l) := by
  have hc := cut_low (bef_once h c)
  refine S.ins_at (cut_le _ _) (fun j x hj hx => ?_) (fun x hx => ?_)
  · have h1 := (hc j x hx).2 hj
    cases h2 : S.before x c with
    | true => rfl
    | false => exact absurd (S.before_tri h2 h1).2 (hu x (List.mem_of_getElem? hx))
  · cases h1 : S.before c x with
    | true => exact S.before_asymm h1
    | false =>
      have := (hc _ x hx).1 h1
      omega

theorem put_del {l : List Cd} (h : Up l) (c : Cd) : put (del l c.id) c = put l c := by
  refine up_ext (put_up (del_up h _) c) (put_up h c) fun x => ?_
  rw [mem_put, mem_del, mem_put]
  constructor
  · rintro (rfl | ⟨⟨h1, h2⟩, _⟩)
    · exact .inl rfl
    · exact .inr ⟨h1, h2⟩
  · rintro (rfl | ⟨h1, h2⟩)
    · exact .inl rfl
    · exact .inr ⟨⟨h1, h2⟩, h2⟩
/-- How many are below an id, counted from the first on. -/
theorem low_at {l : List Cd} (h : Up l) {id : ByteArray} {k : Nat} (hk : k ≤ l.length) (ha : ∀ j x, j < k → l[j]? = some x → K.lt x.id id = true) (hb : ∀ x, l[k]? = some x → K.lt x.id id = false) : (low l id).length = k := by
  have hc := cut_low (geq_once h id)
  rw [cut_geq] at hc
  have hl := low_le l id
  rcases Nat.lt_trichotomy (low l id).length k with g | g | g
  · have hx : l[(low l id).length]? = some (l[(low l id).length]'(by omega)) := List.getElem?_eq_getElem _
    have h1 := ha _ _ g hx
    have h2 := (hc _ _ hx).1 (by rw [geq, h1]; rfl)
    omega
  · exact g
  · have hx : l[k]? = some (l[k]'(by omega)) := List.getElem?_eq_getElem _
    have h1 := hb _ hx
    have h2 := (hc _ _ hx).2 g
    rw [geq, h1] at h2
    cases h2

/-! ### Shelves by their keys -/

theorem srt_take {l : List Cd} {k : Nat} {c : Cd} (h : l[k]? = some c) : S.srt (l.take (k + 1)) = S.ins (S.srt (l.take k)) c := by
  obtain ⟨hk, rfl⟩ := List.getElem?_eq_some_iff.1 h
  rw [List.take_succ_eq_append_getElem hk]
  unfold S.srt
  rw [List.foldl_append]
  rfl
theorem srt_len (l : List Cd) : (S.srt l).length = l.length := (S.srt_perm l).length_eq
/-- The next card is of another id than those ahead. -/
theorem next_unlike {l : List Cd} (h : Up l) {k : Nat} {c : Cd} (hc : l[k]? = some c) : ∀ x ∈ S.srt (l.take k), x.id ≠ c.id := fun x hx => by
  have hm := (S.srt_perm _).subset hx
  obtain ⟨i, hi⟩ := List.mem_iff_getElem?.1 hm
  rw [List.getElem?_take] at hi
  split at hi
  · rename_i h1
    obtain ⟨g1, e1⟩ := List.getElem?_eq_some_iff.1 hi
    obtain ⟨g2, e2⟩ := List.getElem?_eq_some_iff.1 hc
    have := List.pairwise_iff_getElem.1 h i k g1 g2 h1
    rw [e1, e2] at this
    exact K.lt_ne this
  · cases hi
theorem take_up {l : List Cd} (h : Up l) (k : Nat) : Up (l.take k) := List.Pairwise.sublist (List.take_sublist k l) h
theorem keyed_before {l : List Cd} (h : may l = true) {i : Nat} {a b : Cd} (ha : (keyed l)[i]? = some a) (hb : (keyed l)[i + 1]? = some b) : S.before a b = true := by
  rw [keyed, if_pos h] at ha hb
  have hu := S.srt_up (may_up h).unlike
  obtain ⟨h1, e1⟩ := List.getElem?_eq_some_iff.1 ha
  obtain ⟨h2, e2⟩ := List.getElem?_eq_some_iff.1 hb
  have := List.pairwise_iff_getElem.1 hu i (i + 1) h1 h2 (by omega)
  rwa [e1, e2] at this
theorem keyed_found {l : List Cd} (h : may l = true) {i : Nat} {a : Cd} (ha : (keyed l)[i]? = some a) : has l a.id = true ∧ l[(low l a.id).length]? = some a := by
  rw [keyed, if_pos h] at ha
  have hm : a ∈ l := (S.srt_perm l).subset (List.mem_of_getElem? ha)
  have hh : has l a.id = true := has_iff.2 ⟨a, hm, rfl⟩
  refine ⟨hh, ?_⟩
  obtain ⟨x, hx, e, hxm⟩ := at_has (may_up h) hh
  rw [(may_up h).one hxm hm hx] at e
  exact e
theorem keyed_len {l : List Cd} (h : may l = true) : (keyed l).length = l.length := by rw [keyed, if_pos h, srt_len]
theorem keyed_id {l : List Cd} {a : Cd} (ha : a ∈ keyed l) : a ∈ l := by
  unfold keyed at ha
  split at ha
  · exact (S.srt_perm l).subset ha
  · cases ha
end H
end Go.Proofs.Ytefnkbgkcjhkoaa

/-
  The contract of the function that holds two lists of texts against each other (Texts).
-/
namespace Go.Proofs.Ytefnkbgkcjhkoaa
set_option maxRecDepth 100000
open Go.RowKit

set_option maxHeartbeats 1000000 in
theorem texts_any (va vb : Value) (m q : List ByteArray) (w : World) (ha : Gl .string w va m) (hb : Gl .string w vb q) (r : Bool) (hr : decide (m = q) = r) :
    Calls Try.prog 43 #[va, vb] w fun e w' => e = .returned (.bool r) ∧ Below w.heap.size w w' := by
  obtain ⟨aa, ca, rfl, la, ma, na, oa⟩ := ha.open
  obtain ⟨ab, cb, rfl, lb, mb, nb, ob⟩ := hb.open
  clear ha hb
  have HR := hide hr
  clear hr
  by_cases hl : m.length = q.length
  · have h0 : ((m.length : Int) != (q.length : Int)) = false := by simp [hl]
    have HL := hide hl
    clear hl
    go_enter Try.func43, Try.ntmps43
    go_wp2
    go_loopw [5] (fun i wr => ∃ k n : Nat, k ≤ m.length ∧ i = .int .i64 k ∧ wr = w.drewN n ∧ Hid (m.take k = q.take k)) (fun i _ => m.length - (intOf i).toNat)
    case atStart => exact ⟨0, 0, Nat.zero_le _, rfl, rfl, rfl⟩
    case round =>
      obtain ⟨k, n, hk, rfl, rfl, HT⟩ := hrel
      by_cases hlt : k < m.length
      · have hltb : k < q.length := by have := unhide HL; omega
        obtain ⟨ba, fa, rfl, _, ca⟩ := oa (by omega)
        obtain ⟨bb, fb, rfl, _, cb⟩ := ob (by omega)
        obtain ⟨x, hx⟩ : ∃ x, m[k]? = some x := ⟨m[k], List.getElem?_eq_getElem hlt⟩
        obtain ⟨y, hy⟩ : ∃ y, q[k]? = some y := ⟨q[k], List.getElem?_eq_getElem hltb⟩
        have c1 := ca k x hx
        have c2 := cb k y hy
        have HX := hide hx
        have HY := hide hy
        have hq := @K.eq_to x y
        clear ca cb oa ob hx hy
        by_cases hxy : x = y
        · have hb1 : (x.toList == y.toList) = true := by rw [hq]; simpa using hxy
          have HXY := hide hxy
          clear hxy hq
          go_wp2
          go_quiet (fail)
          go_wp2
          go_roundw
          case rel =>
            refine ⟨k + 1, _, by omega, by go_num, rfl, ?_⟩
            show _ = _
            obtain ⟨_, e1⟩ := List.getElem?_eq_some_iff.1 (unhide HX)
            obtain ⟨_, e2⟩ := List.getElem?_eq_some_iff.1 (unhide HY)
            rw [List.take_succ_eq_append_getElem (by omega), List.take_succ_eq_append_getElem (by omega), unhide HT, e1, e2, unhide HXY]
          case measure => simp [intOf]; omega
        · have hb1 : (x.toList == y.toList) = false := by rw [hq]; simpa using hxy
          have HXY := hide hxy
          clear hxy hq
          go_wp2
          go_quiet (fail)
          go_wp2
          go_ret
          refine ⟨ret_bool ?_, below_dr (below_dr (Below.refl _ _) _) _⟩
          rw [← unhide HR]
          symm
          apply decide_eq_false
          intro e
          have e1 := unhide HX
          rw [e, unhide HY] at e1
          exact unhide HXY (Option.some.inj e1).symm
      · have HX : Hid (r = true) := by
          show _ = _
          have e := unhide HT
          rw [List.take_of_length_le (by omega), List.take_of_length_le (by have := unhide HL; omega)] at e
          rw [← unhide HR, e]
          simp
        clear oa ob
        go_wp2
        go_ret
        exact ⟨ret_bool (unhide HX).symm, below_dr (Below.refl _ _) n⟩
  · have h0 : ((m.length : Int) != (q.length : Int)) = true := by rw [bne_iff_ne]; omega
    have HX : Hid (r = false) := by
      show _ = _
      rw [← unhide HR]
      apply decide_eq_false
      intro e
      rw [e] at hl
      exact hl rfl
    clear oa ob hl
    go_enter Try.func43, Try.ntmps43
    go_wp2
    go_ret
    exact ⟨ret_bool (unhide HX).symm, Below.refl _ _⟩
end Go.Proofs.Ytefnkbgkcjhkoaa

/-
  The contracts of the document's own comparisons of cards, at any cards.
-/
namespace Go.Proofs.Ytefnkbgkcjhkoaa
set_option maxRecDepth 100000
open Go.RowKit

namespace S
def sameC (a b : Cd) : Bool := decide (a.w = b.w) && ((a.id.toList == b.id.toList) && (a.key == b.key))
end S

set_option maxHeartbeats 2000000 in
theorem samecG_any (a b : Cd) (aa ab : Option Addr) (ca cb : Nat) (w : World) (ha : Gl .string w (.slice aa a.w.length ca) a.w) (hb : Gl .string w (.slice ab b.w.length cb) b.w) (r : Bool) (hr : S.sameC a b = r) :
    Calls Try.prog 24 #[.agg #[.string a.id, .int .i64 a.key, .slice aa a.w.length ca], .agg #[.string b.id, .int .i64 b.key, .slice ab b.w.length cb]] w fun e w' => e = .returned (.bool r) ∧ Below w.heap.size w w' := by
  obtain ⟨W, hW⟩ : ∃ W, W = (w.alloc (.cells #[.string a.id, .int .i64 a.key, .slice aa a.w.length ca] 30)).alloc (.cells #[.string b.id, .int .i64 b.key, .slice ab b.w.length cb] 30) := ⟨_, rfl⟩
  have B0 : Below w.heap.size w W := by rw [hW]; exact (below_alloc _ _).alloc (by simp) _
  have HA := ha.below B0
  have HB := hb.below B0
  have c0 : W.cell? ⟨w.heap.size, 0, none⟩ = some (.string a.id) := by rw [hW]; simp [go_sem]
  have c1 : W.cell? ⟨w.heap.size, 1, none⟩ = some (.int .i64 a.key) := by rw [hW]; simp [go_sem]
  have d0 : W.cell? ⟨w.heap.size + 1, 0, none⟩ = some (.string b.id) := by rw [hW]; simp [go_sem]
  have d1 : W.cell? ⟨w.heap.size + 1, 1, none⟩ = some (.int .i64 b.key) := by rw [hW]; simp [go_sem]
  have HW := hide hW
  obtain ⟨r1, hr1⟩ : ∃ r1, decide (a.w = b.w) = r1 := ⟨_, rfl⟩
  have CT := texts_any _ _ a.w b.w W HA HB r1 hr1
  unfold S.sameC at hr
  rw [hr1] at hr
  have HR := hide hr
  clear hW ha hb hr1 hr
  go_enter Try.func24, Try.ntmps24
  go_wp2_with fail
  rw [← unhide HW]
  refine CT.mono ?_
  rintro e w1 ⟨rfl, B1⟩
  have xc0 := cell_keep c0 B1
  have xc1 := cell_keep c1 B1
  have xd0 := cell_keep d0 B1
  have xd1 := cell_keep d1 B1
  have BB := below_trans' B0 B1
  clear HA HB B0 B1 c0 c1 d0 d1 HW CT
  cases r1 with
  | false =>
    go_wp2
    go_ret
    exact ⟨by rw [← unhide HR]; rfl, BB⟩
  | true =>
    cases hii : (a.id.toList == b.id.toList) with
    | false =>
      have hr := unhide HR
      rw [hii] at hr
      have HR2 := hide hr
      clear hr HR
      go_wp2
      go_ret
      exact ⟨by rw [← unhide HR2]; rfl, BB⟩
    | true =>
      cases hkk : (a.key == b.key) with
      | false =>
        have hr := unhide HR
        rw [hii, hkk] at hr
        have HR2 := hide hr
        clear hr HR
        go_wp2
        go_ret
        exact ⟨by rw [← unhide HR2]; rfl, BB⟩
      | true =>
        have hr := unhide HR
        rw [hii, hkk] at hr
        have HR2 := hide hr
        clear hr HR
        go_wp2
        go_ret
        exact ⟨by rw [← unhide HR2]; rfl, BB⟩

def AllEnd (w : World) (L M : List Cd) (e : Ending) (w' : World) : Prop := ∃ r : Bool, e = .returned (.bool r) ∧ (L = M → r = true) ∧ Below w.heap.size w w'
theorem S.sameC_refl (a : Cd) : S.sameC a a = true := by simp [S.sameC]

set_option maxRecDepth 100000 in
set_option maxHeartbeats 4000000 in
theorem allSameG_any (va vb : Value) (L M : List Cd) (w : World) (h : Cs w va L) (k : Cs w vb M) :
    Calls Try.prog 16 #[va, vb] w (AllEnd w L M) := by
  have HA := h
  have HB := k
  obtain ⟨a, cap, rfl, hl, hm, hna, -⟩ := h.open
  obtain ⟨a2, cap2, rfl, hl2, hm2, hna2, -⟩ := k.open
  clear h k
  by_cases hLM : L.length = M.length
  case neg =>
    have q1 : ((L.length : Int) != (M.length : Int)) = true := by simp; omega
    have HNO : Hid (L ≠ M) := hide (fun e => hLM (by rw [e]))
    clear hLM
    go_enter Try.func16, Try.ntmps16
    go_wp2
    go_ret
    exact ⟨false, rfl, fun e => absurd e (unhide HNO), Below.refl _ _⟩
  have q1 : ((L.length : Int) != (M.length : Int)) = false := by simp; omega
  have HLM := hide hLM
  clear hLM
  go_enter Try.func16, Try.ntmps16
  go_wp2
  go_loopw [5] (fun iv wr => ∃ k : Nat, k ≤ L.length ∧ iv = .int .i64 k ∧ Below w.heap.size w wr) (fun iv _ => L.length - (intOf iv).toNat)
  case atStart => exact ⟨0, Nat.zero_le _, rfl, Below.refl _ _⟩
  case round =>
    obtain ⟨k, hk, rfl, hbel⟩ := hrel
    by_cases hlt : k < L.length
    · obtain ⟨a', c', hv', -, -, -, ho⟩ := (HA.below hbel).open
      simp only [Value.slice.injEq, true_and] at hv'
      obtain ⟨rfl, rfl⟩ := hv'
      obtain ⟨b1, o1, rfl, hb1, hc1⟩ := ho (by omega)
      clear ho
      obtain ⟨a', c', hv', -, -, -, ho⟩ := (HB.below hbel).open
      simp only [Value.slice.injEq, true_and] at hv'
      obtain ⟨rfl, rfl⟩ := hv'
      obtain ⟨b2, o2, rfl, hb2, hc2⟩ := ho (by have := unhide HLM; omega)
      obtain ⟨c, hx⟩ : ∃ c, L[k]? = some c := ⟨L[k], List.getElem?_eq_getElem hlt⟩
      obtain ⟨d, hy⟩ : ∃ d, M[k]? = some d := ⟨M[k]'(by have := unhide HLM; omega), List.getElem?_eq_getElem _⟩
      obtain ⟨wa, wc, c0, c1, c2, G1⟩ := hc1 k c hx
      obtain ⟨wb, wd, d0, d1, d2, G2⟩ := hc2 k d hy
      have g0 : ∀ w', Below wr.heap.size wr w' → w'.cell? ⟨b1, o1 + k * 3, none⟩ = some (.string c.id) := fun w' hw' => cell_keep c0 hw'
      have g1 : ∀ w', Below wr.heap.size wr w' → w'.cell? ⟨b1, o1 + k * 3 + 1, none⟩ = some (.int .i64 c.key) := fun w' hw' => cell_keep c1 hw'
      have g2 : ∀ w', Below wr.heap.size wr w' → w'.cell? ⟨b1, o1 + k * 3 + 2, none⟩ = some (.slice wa c.w.length wc) := fun w' hw' => cell_keep c2 hw'
      have h0 : ∀ w', Below wr.heap.size wr w' → w'.cell? ⟨b2, o2 + k * 3, none⟩ = some (.string d.id) := fun w' hw' => cell_keep d0 hw'
      have h1 : ∀ w', Below wr.heap.size wr w' → w'.cell? ⟨b2, o2 + k * 3 + 1, none⟩ = some (.int .i64 d.key) := fun w' hw' => cell_keep d1 hw'
      have h2 : ∀ w', Below wr.heap.size wr w' → w'.cell? ⟨b2, o2 + k * 3 + 2, none⟩ = some (.slice wb d.w.length wd) := fun w' hw' => cell_keep d2 hw'
      have p1 : (k : Int) < (L.length : Int) := by omega
      have p2 : (k : Int) < (M.length : Int) := by have := unhide HLM; omega
      obtain ⟨r, hr⟩ : ∃ r, S.sameC c d = r := ⟨_, rfl⟩
      have HRD := hide hr
      have HNE : Hid (r = false → L ≠ M) := hide (fun e9 e => by
        subst e
        rw [hx] at hy
        cases hy
        rw [S.sameC_refl] at hr
        rw [← hr] at e9
        cases e9)
      clear ho hc1 hc2 hx hy c0 c1 c2 d0 d1 d2 hr
      go_wp2
      refine region_below (by kernel_rfl) (by kernel_rfl) ?_
      repeat
        (first
          | go_big_quiet_skip
          | (go_big_quiet_want; go_big_quiet_op
             first
               | go_big_quiet_on
               | (apply Exists.intro
                  refine ⟨fun w' hw' => ?_, ?_⟩
                  · first
                   | exact rfl
                   | (rw [g0 w' hw']; dsimp only [Result.andThen]; rw [g1 w' hw']; dsimp only [Result.andThen]; rw [g2 w' hw']; exact ⟨rfl, rfl⟩)
                   | (rw [h0 w' hw']; dsimp only [Result.andThen]; rw [h1 w' hw']; dsimp only [Result.andThen]; rw [h2 w' hw']; exact ⟨rfl, rfl⟩)
                   | (go_at_call 24; exact (samecG_any c d _ _ _ _ _ (G1.below hw') (G2.below hw') r (unhide HRD)).mono fun e w'' ⟨h1, h2⟩ => ⟨h1, below_trans' hw' h2⟩)
                  go_big_quiet_on)))
      refine wpQuiet_nil ?_
      intro w9 hb9
      have B9 := below_trans' hbel hb9
      clear g0 g1 g2 h0 h1 h2 G1 G2
      cases r with
      | false =>
        have HN := hide (unhide HNE rfl)
        clear HNE HRD
        go_wp2
        go_ret
        exact ⟨false, rfl, fun e => absurd e (unhide HN), B9⟩
      | true =>
        clear HNE HRD
        go_wp2
        go_roundw
        case rel => exact ⟨k + 1, by omega, by go_num, B9⟩
        case measure => simp [intOf]; omega
    · go_wp2
      go_ret
      exact ⟨true, rfl, fun _ => rfl, hbel⟩
end Go.Proofs.Ytefnkbgkcjhkoaa

/-
  Segments that may be: at each place stands just one word. Plain mathematics; no program is named here.
-/
namespace Go.Proofs.Ytefnkbgkcjhkoaa
set_option maxRecDepth 100000
namespace S

/-- Cards that make a segment, in this order. -/
structure Ok (l : List Cd) (so : Bool) : Prop where
  fit : ∀ c ∈ l, fits c = true
  unl : Unlike l
  len : l.length ≤ 64
  few : (words l).length ≤ 200
  up : so = true → Up l

theorem fits_w {c : Cd} (h : fits c = true) : c.w.length ≤ 120 ∧ (∀ x ∈ c.w, 1 ≤ x.size ∧ x.size ≤ 32) ∧ 1 ≤ c.id.size ∧ c.id.size ≤ 16 ∧ 0 ≤ c.key ∧ c.key ≤ 1073741824 := by
  simp only [fits, Bool.and_eq_true, decide_eq_true_eq, List.all_eq_true] at h
  obtain ⟨⟨⟨⟨⟨h1, h2⟩, h3⟩, h4⟩, h5⟩, h6⟩ := h
  exact ⟨h1, fun x hx => h2 x hx, h3, h4, h5, h6⟩

theorem Ok.may {l : List Cd} {so : Bool} (h : Ok l so) : D.may (words l) = true := by
  refine D.may_of h.few (words_rise l) fun x hx => ?_
  obtain ⟨c, hc, hxc⟩ := mem_words.1 hx
  exact (fits_w (h.fit c hc)).2.1 x hxc

theorem words_may {l : List Cd} (h : ∀ c ∈ l, fits c = true) : D.may (words l) = decide ((words l).length ≤ 200) := by
  by_cases hl : (words l).length ≤ 200
  · rw [decide_eq_true hl]
    refine D.may_of hl (words_rise l) fun x hx => ?_
    obtain ⟨c, hc, hxc⟩ := mem_words.1 hx
    exact (fits_w (h c hc)).2.1 x hxc
  · rw [decide_eq_false hl]
    cases hm : D.may (words l) with
    | false => rfl
    | true => exact absurd (D.may_len hm) hl

abbrev Spot := (Int × Int) × Nat
/-- Where a word (the i-th one) is laid. -/
def sp (i : Nat) (p : Pt) : List Spot := p.a.map fun k => ((p.d, k), i)
def spots : Nat → List Tm → List Spot
  | _, [] => []
  | i, t :: ts => t.p.flatMap (sp i) ++ spots (i + 1) ts
theorem spots_app : ∀ (a b : List Tm) (i : Nat), spots i (a ++ b) = spots i a ++ spots (i + a.length) b
  | [], b, i => by simp [spots]
  | t :: a, b, i => by
    have := spots_app a b (i + 1)
    simp only [List.cons_append, spots, this, List.append_assoc, List.length_cons, show i + 1 + a.length = i + (a.length + 1) by omega]
theorem spots_snoc {ts : List Tm} {k : Nat} {t : Tm} (h : ts[k]? = some t) : spots 0 (ts.take (k + 1)) = spots 0 (ts.take k) ++ t.p.flatMap (sp k) := by
  obtain ⟨hk, rfl⟩ := List.getElem?_eq_some_iff.1 h
  rw [List.take_succ_eq_append_getElem hk, spots_app]
  have e : (ts.take k).length = k := by simp; omega
  rw [e]
  simp [spots]

theorem mem_spots : ∀ {ts : List Tm} {i : Nat} {x : Spot}, x ∈ spots i ts ↔ ∃ (n : Nat) (t : Tm) (p : Pt), ts[n]? = some t ∧ p ∈ t.p ∧ x.1.1 = p.d ∧ x.1.2 ∈ p.a ∧ x.2 = i + n
  | [], i, x => by simp [spots]
  | t :: ts, i, x => by
    have ih := mem_spots (ts := ts) (i := i + 1) (x := x)
    simp only [spots, List.mem_append, ih]
    constructor
    · rintro (h | ⟨n, t', p, h1, h2, h3, h4, h5⟩)
      · obtain ⟨p, hp, hx⟩ := List.mem_flatMap.1 h
        obtain ⟨k, hk, rfl⟩ := List.mem_map.1 hx
        exact ⟨0, t, p, rfl, hp, rfl, hk, rfl⟩
      · exact ⟨n + 1, t', p, by simpa using h1, h2, h3, h4, by omega⟩
    · rintro ⟨n, t', p, h1, h2, h3, h4, h5⟩
      cases n with
      | zero =>
        simp at h1
        subst h1
        refine .inl (List.mem_flatMap.2 ⟨p, h2, List.mem_map.2 ⟨x.1.2, h4, ?_⟩⟩)
        obtain ⟨⟨x1, x2⟩, x3⟩ := x
        simp only at h3 h5 ⊢
        subst h3 h5
        rfl
      | succ n => exact .inr ⟨n, t', p, by simpa using h1, h2, h3, h4, by omega⟩

/-- The places of the segment of cards. -/
def laid (l : List Cd) : List Spot := spots 0 ((words l).map (term l))

theorem mem_laid {l : List Cd} {x : Spot} : x ∈ laid l ↔ ∃ (d k : Nat) (c : Cd) (t : ByteArray), x.1 = ((d : Int), (k : Int)) ∧ l[d]? = some c ∧ c.w[k]? = some t ∧ (words l)[x.2]? = some t := by
  unfold laid
  rw [mem_spots]
  constructor
  · rintro ⟨n, t', p, h1, h2, h3, h4, h5⟩
    rw [List.getElem?_map] at h1
    obtain ⟨t, ht, rfl⟩ := Option.map_eq_some_iff.1 h1
    obtain ⟨q, hq, rfl⟩ := List.mem_map.1 h2
    obtain ⟨d, c, hc, rfl, -⟩ := mem_posts.1 hq
    obtain ⟨k, hk, hw⟩ := mem_places.1 h4
    exact ⟨d, k, c, t, Prod.ext h3 hk, hc, hw, by rw [h5, Nat.zero_add]; exact ht⟩
  · rintro ⟨d, k, c, t, h1, h2, h3, h4⟩
    have hm : (k : Int) ∈ places c.w t := mem_places.2 ⟨k, rfl, h3⟩
    refine ⟨x.2, term l t, ⟨d, places c.w t⟩, by rw [List.getElem?_map, h4]; rfl, List.mem_map.2 ⟨((d : Int), places c.w t), mem_posts.2 ⟨d, c, h2, rfl, fun e => by rw [e] at hm; cases hm⟩, rfl⟩, by rw [h1], by rw [h1]; exact hm, by omega⟩

/-- Each place has one word. -/
theorem laid_one {l : List Cd} {x y : Spot} (hx : x ∈ laid l) (hy : y ∈ laid l) (h : x.1 = y.1) : x = y := by
  obtain ⟨d, k, c, t, h1, h2, h3, h4⟩ := mem_laid.1 hx
  obtain ⟨d', k', c', t', g1, g2, g3, g4⟩ := mem_laid.1 hy
  have e : ((d : Int), (k : Int)) = ((d' : Int), (k' : Int)) := by rw [← h1, ← g1, h]
  simp only [Prod.mk.injEq] at e
  obtain rfl : d = d' := by omega
  obtain rfl : k = k' := by omega
  rw [h2] at g2
  cases g2
  rw [h3] at g3
  cases g3
  have e1 := D.bel_self (words_rise l) h4
  have e2 := D.bel_self (words_rise l) g4
  exact Prod.ext h (by omega)

theorem spots_nodup : ∀ {ts : List Tm} {i : Nat}, (∀ t ∈ ts, t.p.Pairwise (fun p q => p.d < q.d) ∧ ∀ p ∈ t.p, p.a.Pairwise (fun a b => a < b)) → (spots i ts).Nodup
  | [], i, _ => by simp [spots]
  | t :: ts, i, h => by
    obtain ⟨h1, h2⟩ := h t (List.mem_cons_self ..)
    have ih := spots_nodup (ts := ts) (i := i + 1) (fun t' ht' => h t' (List.mem_cons_of_mem _ ht'))
    rw [List.nodup_iff_pairwise_ne] at ih ⊢
    simp only [spots]
    refine List.pairwise_append.2 ⟨List.pairwise_flatMap.2 ⟨fun p hp => ?_, ?_⟩, ih, fun x hx y hy e => ?_⟩
    · unfold sp
      rw [List.pairwise_map]
      refine (h2 p hp).imp fun hab e => ?_
      simp only [Prod.mk.injEq, true_and, and_true] at e
      omega
    · refine h1.imp fun hpq x hx y hy e => ?_
      obtain ⟨a, -, rfl⟩ := List.mem_map.1 hx
      obtain ⟨b, -, rfl⟩ := List.mem_map.1 hy
      simp only [Prod.mk.injEq] at e
      omega
    · subst e
      obtain ⟨p, -, hx⟩ := List.mem_flatMap.1 hx
      obtain ⟨a, -, rfl⟩ := List.mem_map.1 hx
      obtain ⟨n, -, -, -, -, -, -, h5⟩ := mem_spots.1 hy
      simp only at h5
      omega

theorem laid_nodup (l : List Cd) : (laid l).Nodup := by
  refine spots_nodup fun t ht => ?_
  obtain ⟨x, -, rfl⟩ := List.mem_map.1 ht
  refine ⟨?_, fun p hp => ?_⟩
  · show ((posts l x).map pt).Pairwise _
    rw [List.pairwise_map]
    exact posts_up l x
  · obtain ⟨q, hq, rfl⟩ := List.mem_map.1 hp
    obtain ⟨d, c, -, rfl, -⟩ := mem_posts.1 hq
    exact places_up c.w x

theorem laid_keys (l : List Cd) : ((laid l).map (·.1)).Nodup := by
  rw [List.nodup_iff_pairwise_ne, List.pairwise_map]
  have := laid_nodup l
  rw [List.nodup_iff_pairwise_ne] at this
  exact List.Pairwise.imp_of_mem (fun ha hb hne e => hne (laid_one ha hb e)) this

/-- All places of cards. -/
def pairs : Nat → List Cd → List (Int × Int)
  | _, [] => []
  | d, c :: l => ((List.range c.w.length).map fun k : Nat => ((d : Int), (k : Int))) ++ pairs (d + 1) l
def total (l : List Cd) : Nat := (l.map (fun c => c.w.length)).sum
theorem pairs_len : ∀ (l : List Cd) (d : Nat), (pairs d l).length = total l
  | [], d => rfl
  | c :: l, d => by
    have := pairs_len l (d + 1)
    simp only [pairs, List.length_append, List.length_map, List.length_range, this, total, List.map_cons, List.sum_cons]
theorem mem_pairs : ∀ {l : List Cd} {d : Nat} {x : Int × Int}, x ∈ pairs d l ↔ ∃ (n k : Nat) (c : Cd), x = (((d + n : Nat) : Int), (k : Int)) ∧ l[n]? = some c ∧ k < c.w.length
  | [], d, x => by simp [pairs]
  | c :: l, d, x => by
    have ih := mem_pairs (l := l) (d := d + 1) (x := x)
    simp only [pairs, List.mem_append, ih, List.mem_map, List.mem_range]
    constructor
    · rintro (⟨k, hk, rfl⟩ | ⟨n, k, c', h1, h2, h3⟩)
      · exact ⟨0, k, c, by simp, rfl, hk⟩
      · exact ⟨n + 1, k, c', by rw [h1, show d + 1 + n = d + (n + 1) by omega], by simpa using h2, h3⟩
    · rintro ⟨n, k, c', h1, h2, h3⟩
      cases n with
      | zero =>
        simp at h2
        subst h2
        exact .inl ⟨k, h3, by rw [h1]; simp⟩
      | succ n => exact .inr ⟨n, k, c', by rw [h1, show d + 1 + n = d + (n + 1) by omega], by simpa using h2, h3⟩
theorem pairs_nodup : ∀ (l : List Cd) (d : Nat), (pairs d l).Nodup
  | [], d => by simp [pairs]
  | c :: l, d => by
    have ih := pairs_nodup l (d + 1)
    rw [List.nodup_iff_pairwise_ne] at ih ⊢
    simp only [pairs]
    refine List.pairwise_append.2 ⟨?_, ih, fun x hx y hy e => ?_⟩
    · rw [List.pairwise_map]
      have := List.nodup_range (n := c.w.length)
      rw [List.nodup_iff_pairwise_ne] at this
      refine this.imp fun hne e => ?_
      simp only [Prod.mk.injEq, true_and] at e
      omega
    · subst e
      obtain ⟨k, -, rfl⟩ := List.mem_map.1 hx
      obtain ⟨n, k', c', h1, -, -⟩ := mem_pairs.1 hy
      simp only [Prod.mk.injEq] at h1
      omega

theorem laid_len (l : List Cd) : (laid l).length = total l := by
  have hp : ((laid l).map (·.1)).Perm (pairs 0 l) := (List.perm_ext_iff_of_nodup (laid_keys l) (pairs_nodup l 0)).2 fun x => by
    rw [mem_pairs]
    constructor
    · intro hx
      obtain ⟨y, hy, rfl⟩ := List.mem_map.1 hx
      obtain ⟨d, k, c, t, h1, h2, h3, -⟩ := mem_laid.1 hy
      exact ⟨d, k, c, by rw [h1]; simp, h2, (List.getElem?_eq_some_iff.1 h3).1⟩
    · rintro ⟨d, k, c, h1, h2, h3⟩
      have hw : c.w[k]? = some c.w[k] := List.getElem?_eq_getElem h3
      have hm : c.w[k] ∈ words l := mem_words.2 ⟨c, List.mem_of_getElem? h2, List.getElem_mem h3⟩
      obtain ⟨i, hi, he⟩ := List.mem_iff_getElem.1 hm
      exact List.mem_map.2 ⟨(x, i), mem_laid.2 ⟨d, k, c, c.w[k], by rw [h1]; simp, h2, hw, by rw [List.getElem?_eq_getElem hi, he]⟩, rfl⟩
  have := hp.length_eq
  rw [List.length_map, pairs_len] at this
  exact this

theorem total_le {l : List Cd} (h : ∀ c ∈ l, c.w.length ≤ 120) : total l ≤ l.length * 120 := by
  induction l with
  | nil => simp [total]
  | cons c l ih =>
    have h1 := h c (List.mem_cons_self ..)
    have h2 := ih fun c' hc' => h c' (List.mem_cons_of_mem _ hc')
    simp only [total, List.map_cons, List.sum_cons, List.length_cons] at h2 ⊢
    omega

/-- The postings of a word may be. -/
theorem pst_may (t : ByteArray) : ∀ (l : List Cd) (i : Nat), i + l.length ≤ 64 → (∀ c ∈ l, c.w.length ≤ 120) → ∀ m : Int, 0 ≤ m → m ≤ i → Q.mayB m ((pst t i l).map pt) = true
  | [], i, _, _, m, _, _ => rfl
  | c :: l, i, hl, hw, m, h0, hm => by
    simp only [List.length_cons] at hl
    have ih := fun m' => pst_may t l (i + 1) (by omega) (fun c' hc' => hw c' (List.mem_cons_of_mem _ hc')) m'
    simp only [pst]
    split
    · exact ih m h0 (by omega)
    · rename_i hp
      rw [List.map_cons, Q.may_cons (p := pt ((i : Int), places c.w t)) ⟨hm, by show (i : Int) < 64; omega⟩]
      · exact ih _ (by show (0 : Int) ≤ (i : Int) + 1; omega) (by show (i : Int) + 1 ≤ ((i + 1 : Nat) : Int); omega)
      · show Q.places (places c.w t) = true
        have hlen : 0 < (places c.w t).length := by
          rcases Nat.eq_zero_or_pos (places c.w t).length with h | h
          · exact absurd (List.eq_nil_of_length_eq_zero h) hp
          · exact h
        simp only [Q.places, Bool.and_eq_true, decide_eq_true_eq]
        refine ⟨?_, hlen⟩
        have hw' := hw c (List.mem_cons_self ..)
        have key : ∀ (z : List Int) (m : Int), z.Pairwise (fun a b => a < b) → (∀ y ∈ z, m ≤ y ∧ y < 120) → Q.riseB m 120 z = true := by
          intro z
          induction z with
          | nil => intro m _ _; rfl
          | cons y z ih =>
            intro m hp hb
            obtain ⟨p1, p2⟩ := List.pairwise_cons.1 hp
            rw [Q.rise_cons (hb y (List.mem_cons_self ..))]
            exact ih _ p2 fun u hu => ⟨by have := p1 u hu; omega, (hb u (List.mem_cons_of_mem _ hu)).2⟩
        refine key _ 0 (places_up c.w t) fun y hy => ?_
        obtain ⟨j, rfl, hj⟩ := mem_places.1 hy
        have := (List.getElem?_eq_some_iff.1 hj).1
        omega
theorem posts_may {l : List Cd} (hl : l.length ≤ 64) (hw : ∀ c ∈ l, c.w.length ≤ 120) (t : ByteArray) : Q.may ((posts l t).map pt) = true := pst_may t l 0 (by omega) hw 0 (by omega) (by omega)
theorem posts_some {l : List Cd} {t : ByteArray} (h : t ∈ words l) : posts l t ≠ [] := by
  obtain ⟨c, hc, ht⟩ := mem_words.1 h
  obtain ⟨d, hd, e⟩ := List.mem_iff_getElem.1 hc
  have hp : places c.w t ≠ [] := fun e => places_nil.1 e ht
  intro e9
  have : ((d : Int), places c.w t) ∈ posts l t := mem_posts.2 ⟨d, c, by rw [List.getElem?_eq_getElem hd, e], rfl, hp⟩
  rw [e9] at this
  cases this
end S
end Go.Proofs.Ytefnkbgkcjhkoaa
