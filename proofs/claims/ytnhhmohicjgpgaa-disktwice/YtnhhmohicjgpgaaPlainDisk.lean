/-
  The document's disk over plain lists: names, order, what may be, what is done, what a crash leaves. No program is named here.
-/
import Derived.Test.YtnhhmohicjgpgaaFBase
import Derived.Lib.Bytes
namespace Go.Proofs.Ytnhhmohicjgpgaa

/-- May this byte stand in a name? -/
def K.ch (c : UInt8) : Bool := (97 ≤ c && c ≤ 122) || (48 ≤ c && c ≤ 57) || c == 46
def K.chars (l : List UInt8) : Bool := l.all K.ch
def K.name (s : ByteArray) : Bool := decide (1 ≤ s.size) && decide (s.size ≤ 24) && K.chars s.data.toList
/-- How many bytes together. -/
def K.sum : List Pf → Nat
  | [] => 0
  | f :: L => f.da.length + K.sum L

theorem K.sum_append (L M : List Pf) : K.sum (L ++ M) = K.sum L + K.sum M := by
  induction L with
  | nil => simp [K.sum]
  | cons f L ih => simp only [List.cons_append, K.sum, ih]; omega

theorem K.sum_take (L : List Pf) (k : Nat) (f : Pf) (h : L[k]? = some f) : K.sum (L.take (k + 1)) = K.sum (L.take k) + f.da.length := by
  obtain ⟨hk, rfl⟩ := List.getElem?_eq_some_iff.1 h
  rw [List.take_succ_eq_append_getElem hk, K.sum_append]
  simp [K.sum]

theorem K.sum_le (L : List Pf) (n : Nat) (h : ∀ f ∈ L, f.da.length ≤ n) : K.sum L ≤ L.length * n := by
  induction L with
  | nil => simp [K.sum]
  | cons f L ih =>
    have h1 := ih fun g hg => h g (List.mem_cons_of_mem _ hg)
    have h2 := h f (List.mem_cons_self ..)
    simp only [K.sum, List.length_cons, Nat.succ_mul]
    omega

theorem K.sum_take_le (L : List Pf) (k : Nat) : K.sum (L.take k) ≤ K.sum L := by
  have := K.sum_append (L.take k) (L.drop k)
  rw [List.take_append_drop] at this
  omega

/-- Is a text below another one, byte by byte? (The model's own order of texts.) -/
def K.lt (x y : ByteArray) : Bool := Op.bytesLess x.toList y.toList
def K.ls (x y : List UInt8) : Bool := Op.bytesLess x y

theorem K.lt_ls (x y : ByteArray) : K.lt x y = K.ls x.data.toList y.data.toList := by unfold K.lt K.ls; rw [Lib.toList_data, Lib.toList_data]

theorem K.ls_irrefl : ∀ x : List UInt8, K.ls x x = false
  | [] => rfl
  | a :: x => by
    have := K.ls_irrefl x
    unfold K.ls at *
    simp [Op.bytesLess, this]

theorem K.ls_nil : ∀ x : List UInt8, K.ls x [] = false
  | [] => rfl
  | _ :: _ => rfl

theorem K.ls_cons (a b : UInt8) (x y : List UInt8) : K.ls (a :: x) (b :: y) = (decide (a < b) || (a == b && K.ls x y)) := rfl

theorem K.ls_trans : ∀ x y z : List UInt8, K.ls x y = true → K.ls y z = true → K.ls x z = true
  | _, [], _, h, _ => by rw [K.ls_nil] at h; cases h
  | _, _ :: _, [], _, h => by rw [K.ls_nil] at h; cases h
  | [], _ :: _, _ :: _, _, _ => rfl
  | a :: x, b :: y, c :: z, h, k => by
    rw [K.ls_cons] at h k ⊢
    simp only [Bool.or_eq_true, Bool.and_eq_true, decide_eq_true_eq, beq_iff_eq] at h k ⊢
    rcases h with h | ⟨rfl, h⟩
    · rcases k with k | ⟨rfl, k⟩
      · exact .inl (UInt8.lt_trans h k)
      · exact .inl h
    · rcases k with k | ⟨rfl, k⟩
      · exact .inl k
      · exact .inr ⟨rfl, K.ls_trans x y z h k⟩

theorem K.ls_tri : ∀ x y : List UInt8, K.ls x y = false → K.ls y x = false → x = y
  | [], [], _, _ => rfl
  | [], _ :: _, h, _ => by simp [K.ls, Op.bytesLess] at h
  | _ :: _, [], _, h => by simp [K.ls, Op.bytesLess] at h
  | a :: x, b :: y, h, k => by
    rw [K.ls_cons] at h k
    simp only [Bool.or_eq_false_iff, Bool.and_eq_false_iff, decide_eq_false_iff_not, beq_eq_false_iff_ne] at h k
    have e : a = b := by
      have h1 := h.1
      have k1 := k.1
      rw [UInt8.lt_iff_toNat_lt] at h1 k1
      exact UInt8.toNat_inj.1 (by omega)
    subst e
    rw [K.ls_tri x y (by simpa using h.2) (by simpa using k.2)]

theorem K.ls_pre (p x y : List UInt8) : K.ls (p ++ x) (p ++ y) = K.ls x y := by
  induction p with
  | nil => rfl
  | cons a p ih => simp [List.cons_append, K.ls_cons, ih]

theorem K.lt_irrefl (x : ByteArray) : K.lt x x = false := by rw [K.lt_ls]; exact K.ls_irrefl _
theorem K.lt_trans {x y z : ByteArray} (h : K.lt x y = true) (k : K.lt y z = true) : K.lt x z = true := by
  rw [K.lt_ls] at *; exact K.ls_trans _ _ _ h k
theorem K.lt_tri {x y : ByteArray} (h : K.lt x y = false) (k : K.lt y x = false) : x = y := by
  rw [K.lt_ls] at h k
  have := K.ls_tri _ _ h k
  exact ByteArray.ext (Array.ext' this)
theorem K.lt_asymm {x y : ByteArray} (h : K.lt x y = true) : K.lt y x = false := by
  cases hb : K.lt y x with
  | false => rfl
  | true => have := K.lt_trans h hb; rw [K.lt_irrefl] at this; cases this
theorem K.lt_ne {x y : ByteArray} (h : K.lt x y = true) : x ≠ y := by
  rintro rfl
  rw [K.lt_irrefl] at h
  cases h

/-- Equality of texts, as the model asks it. -/
theorem K.eq_to {x y : ByteArray} : (x.toList == y.toList) = decide (x = y) := by
  rw [Lib.toList_data, Lib.toList_data, Bool.eq_iff_iff]
  simp only [beq_iff_eq, decide_eq_true_eq]
  exact ⟨fun h => ByteArray.ext (Array.ext' h), fun h => by rw [h]⟩

theorem K.lt_diff (a b : ByteArray) (k : Nat) (ha : k < a.size) (hb : k < b.size) (he : a.data.toList.take k = b.data.toList.take k) (hn : a[k] ≠ b[k]) : K.lt a b = decide (a[k] < b[k]) := by
  rw [K.lt_ls]
  have h1 : a.data.toList = a.data.toList.take k ++ a[k] :: a.data.toList.drop (k + 1) := by
    have : a[k] = a.data.toList[k]'(by simpa using ha) := rfl
    rw [this, ← List.drop_eq_getElem_cons (by simpa using ha), List.take_append_drop]
  have h2 : b.data.toList = a.data.toList.take k ++ b[k] :: b.data.toList.drop (k + 1) := by
    have : b[k] = b.data.toList[k]'(by simpa using hb) := rfl
    rw [he, this, ← List.drop_eq_getElem_cons (by simpa using hb), List.take_append_drop]
  rw [h1, h2, K.ls_pre, K.ls_cons]
  simp [hn]

theorem K.lt_end (a b : ByteArray) (k : Nat) (he : a.data.toList.take k = b.data.toList.take k) (h : a.size ≤ k ∨ b.size ≤ k) (ha : k ≤ a.size) (hb : k ≤ b.size) : K.lt a b = decide (a.size < b.size) := by
  rw [K.lt_ls]
  have sa : a.data.toList.length = a.size := by simp
  have sb : b.data.toList.length = b.size := by simp
  by_cases hk : a.size ≤ k
  · rw [List.take_of_length_le (by omega)] at he
    by_cases hb2 : b.size ≤ k
    · rw [List.take_of_length_le (by omega)] at he
      rw [he, K.ls_irrefl]
      have : a.size = b.size := by omega
      simp [this]
    · have h2 : b.data.toList = b.data.toList.take k ++ b.data.toList.drop k := (List.take_append_drop ..).symm
      obtain ⟨c, r, hr⟩ : ∃ c r, b.data.toList.drop k = c :: r := ⟨_, _, List.drop_eq_getElem_cons (by omega)⟩
      rw [h2, ← he, hr]
      have := K.ls_pre a.data.toList [] (c :: r)
      rw [List.append_nil] at this
      rw [this]
      have : a.size < b.size := by omega
      simp [this, K.ls, Op.bytesLess]
  · have hb2 : b.size ≤ k := by omega
    have h2 : a.data.toList = a.data.toList.take k ++ a.data.toList.drop k := (List.take_append_drop ..).symm
    rw [List.take_of_length_le (l := b.data.toList) (by omega)] at he
    rw [h2, he]
    have := K.ls_pre b.data.toList (a.data.toList.drop k) []
    rw [List.append_nil] at this
    rw [this, K.ls_nil]
    have : ¬ a.size < b.size := by omega
    simp [this]

/-- Is the file at that place of a good name, and above the one ahead? -/
def K.okAt (L : List Pf) (i : Nat) : Bool :=
  match L[i]? with
  | none => true
  | some f => K.name f.nm && match i with
    | 0 => true
    | j + 1 => match L[j]? with
      | none => true
      | some g => K.lt g.nm f.nm
def K.ordTo (L : List Pf) (k : Nat) : Bool := (List.range k).all (K.okAt L)
def K.ord (L : List Pf) : Bool := K.ordTo L L.length
/-- May it be? -/
def K.may (cap : Int) (L : List Pf) : Bool := decide (0 ≤ cap) && decide (cap ≤ 1048576) && decide (L.length ≤ 64) && K.ord L && decide ((K.sum L : Int) ≤ cap)

theorem K.ordTo_succ (L : List Pf) (k : Nat) : K.ordTo L (k + 1) = (K.ordTo L k && K.okAt L k) := by
  simp [K.ordTo, List.range_succ]
theorem K.ord_false {L : List Pf} {k : Nat} (hk : k < L.length) (h : K.okAt L k = false) : K.ord L = false := by
  unfold K.ord K.ordTo
  rw [List.all_eq_false]
  exact ⟨k, by simpa using hk, by simp [h]⟩
theorem K.okAt_name {L : List Pf} {k : Nat} {f : Pf} (h : L[k]? = some f) (hn : K.name f.nm = false) : K.okAt L k = false := by simp [K.okAt, h, hn]
theorem K.okAt_zero {L : List Pf} {f : Pf} (h : L[0]? = some f) : K.okAt L 0 = K.name f.nm := by simp [K.okAt, h]
theorem K.okAt_succ {L : List Pf} {k : Nat} {f g : Pf} (h : L[k + 1]? = some f) (h' : L[k]? = some g) : K.okAt L (k + 1) = (K.name f.nm && K.lt g.nm f.nm) := by simp [K.okAt, h, h']
/-- 'f <= g' is 'not g < f'. -/
theorem K.le_not (f g : ByteArray) : (Op.bytesLess f.toList g.toList || f.toList == g.toList) = !K.lt g f := by
  show (K.lt f g || f.toList == g.toList) = _
  rw [K.eq_to]
  cases h : K.lt g f with
  | true => simp [K.lt_asymm h, Ne.symm (K.lt_ne h)]
  | false =>
    cases h2 : K.lt f g with
    | true => simp
    | false => simp [K.lt_tri h2 h]

end Go.Proofs.Ytnhhmohicjgpgaa
