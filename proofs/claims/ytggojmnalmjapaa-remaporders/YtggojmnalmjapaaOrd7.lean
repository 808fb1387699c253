/-
  Texts in their order, byte by byte: plain facts; and the contract of the document's own order (Below).
-/
import Derived.Test.YtggojmnalmjapaaHelp
import Derived.Test.YtggojmnalmjapaaGBase
import Derived.Lib.Bytes
import Derived.Deep.QuietTactic
import Derived.BigQuiet
namespace Go.Proofs.Ytggojmnalmjapaa
set_option maxRecDepth 100000
open Go.RowKit

/-- Is a text below another one, byte by byte? (The model's own order of texts.) -/
def K.lt (x y : ByteArray) : Bool := Op.bytesLess x.toList y.toList
def K.ls (x y : List UInt8) : Bool := Op.bytesLess x y

theorem K.lt_ls (x y : ByteArray) : K.lt x y = K.ls x.data.toList y.data.toList := by unfold K.lt K.ls; rw [Lib.toList_data, Lib.toList_data]

theorem K.ls_irrefl : ∀ x : List UInt8, K.ls x x = false
  | [] => rfl
  | a :: x => by
    have := K.ls_irrefl x
    unfold K.ls at *
    simp [Op.bytesLess, this]

theorem K.ls_nil : ∀ x : List UInt8, K.ls x [] = false
  | [] => rfl
  | _ :: _ => rfl

theorem K.ls_cons (a b : UInt8) (x y : List UInt8) : K.ls (a :: x) (b :: y) = (decide (a < b) || (a == b && K.ls x y)) := rfl

theorem K.ls_trans : ∀ x y z : List UInt8, K.ls x y = true → K.ls y z = true → K.ls x z = true
  | _, [], _, h, _ => by rw [K.ls_nil] at h; cases h
  | _, _ :: _, [], _, h => by rw [K.ls_nil] at h; cases h
  | [], _ :: _, _ :: _, _, _ => rfl
  | a :: x, b :: y, c :: z, h, k => by
    rw [K.ls_cons] at h k ⊢
    simp only [Bool.or_eq_true, Bool.and_eq_true, decide_eq_true_eq, beq_iff_eq] at h k ⊢
    rcases h with h | ⟨rfl, h⟩
    · rcases k with k | ⟨rfl, k⟩
      · exact .inl (UInt8.lt_trans h k)
      · exact .inl h
    · rcases k with k | ⟨rfl, k⟩
      · exact .inl k
      · exact .inr ⟨rfl, K.ls_trans x y z h k⟩

theorem K.ls_tri : ∀ x y : List UInt8, K.ls x y = false → K.ls y x = false → x = y
  | [], [], _, _ => rfl
  | [], _ :: _, h, _ => by simp [K.ls, Op.bytesLess] at h
  | _ :: _, [], _, h => by simp [K.ls, Op.bytesLess] at h
  | a :: x, b :: y, h, k => by
    rw [K.ls_cons] at h k
    simp only [Bool.or_eq_false_iff, Bool.and_eq_false_iff, decide_eq_false_iff_not, beq_eq_false_iff_ne] at h k
    have e : a = b := by
      have h1 := h.1
      have k1 := k.1
      rw [UInt8.lt_iff_toNat_lt] at h1 k1
      exact UInt8.toNat_inj.1 (by omega)
    subst e
    rw [K.ls_tri x y (by simpa using h.2) (by simpa using k.2)]

theorem K.ls_pre (p x y : List UInt8) : K.ls (p ++ x) (p ++ y) = K.ls x y := by
  induction p with
  | nil => rfl
  | cons a p ih => simp [List.cons_append, K.ls_cons, ih]

theorem K.lt_irrefl (x : ByteArray) : K.lt x x = false := by rw [K.lt_ls]; exact K.ls_irrefl _
theorem K.lt_trans {x y z : ByteArray} (h : K.lt x y = true) (k : K.lt y z = true) : K.lt x z = true := by
  rw [K.lt_ls] at *; exact K.ls_trans _ _ _ h k
theorem K.lt_tri {x y : ByteArray} (h : K.lt x y = false) (k : K.lt y x = false) : x = y := by
  rw [K.lt_ls] at h k
  have := K.ls_tri _ _ h k
  exact ByteArray.ext (Array.ext' this)
theorem K.lt_asymm {x y : ByteArray} (h : K.lt x y = true) : K.lt y x = false := by
  cases hb : K.lt y x with
  | false => rfl
  | true => have := K.lt_trans h hb; rw [K.lt_irrefl] at this; cases this
theorem K.lt_ne {x y : ByteArray} (h : K.lt x y = true) : x ≠ y := by
  rintro rfl
  rw [K.lt_irrefl] at h
  cases h

/-- Equality of texts, as the model asks it. -/
theorem K.eq_to {x y : ByteArray} : (x.toList == y.toList) = decide (x = y) := by
  rw [Lib.toList_data, Lib.toList_data, Bool.eq_iff_iff]
  simp only [beq_iff_eq, decide_eq_true_eq]
  exact ⟨fun h => ByteArray.ext (Array.ext' h), fun h => by rw [h]⟩

theorem K.lt_diff (a b : ByteArray) (k : Nat) (ha : k < a.size) (hb : k < b.size) (he : a.data.toList.take k = b.data.toList.take k) (hn : a[k] ≠ b[k]) : K.lt a b = decide (a[k] < b[k]) := by
  rw [K.lt_ls]
  have h1 : a.data.toList = a.data.toList.take k ++ a[k] :: a.data.toList.drop (k + 1) := by
    have : a[k] = a.data.toList[k]'(by simpa using ha) := rfl
    rw [this, ← List.drop_eq_getElem_cons (by simpa using ha), List.take_append_drop]
  have h2 : b.data.toList = a.data.toList.take k ++ b[k] :: b.data.toList.drop (k + 1) := by
    have : b[k] = b.data.toList[k]'(by simpa using hb) := rfl
    rw [he, this, ← List.drop_eq_getElem_cons (by simpa using hb), List.take_append_drop]
  rw [h1, h2, K.ls_pre, K.ls_cons]
  simp [hn]

theorem K.lt_end (a b : ByteArray) (k : Nat) (he : a.data.toList.take k = b.data.toList.take k) (h : a.size ≤ k ∨ b.size ≤ k) (ha : k ≤ a.size) (hb : k ≤ b.size) : K.lt a b = decide (a.size < b.size) := by
  rw [K.lt_ls]
  have sa : a.data.toList.length = a.size := by simp
  have sb : b.data.toList.length = b.size := by simp
  by_cases hk : a.size ≤ k
  · rw [List.take_of_length_le (by omega)] at he
    by_cases hb2 : b.size ≤ k
    · rw [List.take_of_length_le (by omega)] at he
      rw [he, K.ls_irrefl]
      have : a.size = b.size := by omega
      simp [this]
    · have h2 : b.data.toList = b.data.toList.take k ++ b.data.toList.drop k := (List.take_append_drop ..).symm
      obtain ⟨c, r, hr⟩ : ∃ c r, b.data.toList.drop k = c :: r := ⟨_, _, List.drop_eq_getElem_cons (by omega)⟩
      rw [h2, ← he, hr]
      have := K.ls_pre a.data.toList [] (c :: r)
      rw [List.append_nil] at this
      rw [this]
      have : a.size < b.size := by omega
      simp [this, K.ls, Op.bytesLess]
  · have hb2 : b.size ≤ k := by omega
    have h2 : a.data.toList = a.data.toList.take k ++ a.data.toList.drop k := (List.take_append_drop ..).symm
    rw [List.take_of_length_le (l := b.data.toList) (by omega)] at he
    rw [h2, he]
    have := K.ls_pre b.data.toList (a.data.toList.drop k) []
    rw [List.append_nil] at this
    rw [this, K.ls_nil]
    have : ¬ a.size < b.size := by omega
    simp [this]

/-- '<=' on texts, as the model asks it. -/
theorem K.le_not (f g : ByteArray) : (Op.bytesLess f.toList g.toList || f.toList == g.toList) = !K.lt g f := by
  show (K.lt f g || f.toList == g.toList) = _
  rw [K.eq_to]
  cases h : K.lt g f with
  | true => simp [K.lt_asymm h, Ne.symm (K.lt_ne h)]
  | false =>
    cases h2 : K.lt f g with
    | true => simp
    | false => simp [K.lt_tri h2 h]

theorem ret_bool {a b : Bool} (h : a = b) : Ending.returned (.bool a) = .returned (.bool b) := by rw [h]

theorem byte_ne {a b : UInt8} (h : ((a.toNat : Int) != (b.toNat : Int)) = true) : a ≠ b := by
  rintro rfl
  simp at h
theorem byte_eq {a b : UInt8} (h : ((a.toNat : Int) != (b.toNat : Int)) = false) : a = b := by
  rw [bne_eq_false_iff_eq] at h
  exact UInt8.toNat_inj.1 (by omega)
theorem take_snoc_b (s : ByteArray) (k : Nat) (h : k < s.size) : s.data.toList.take (k + 1) = s.data.toList.take k ++ [s[k]] := by
  rw [List.take_succ_eq_append_getElem (by simpa using h)]; rfl

set_option maxHeartbeats 1000000 in
theorem below_any (a b : ByteArray) (w : World) (ha : a.size ≤ maxLen) :
    Calls Try.prog 35 #[.string a, .string b] w fun e w' => e = .returned (.bool (K.lt a b)) ∧ ∃ n, w' = w.drewN n := by
  unfold maxLen at ha
  go_enter Try.func35, Try.ntmps35
  go_wp2
  go_loopw [5] (fun i wr => ∃ k : Nat, k ≤ a.size ∧ k ≤ b.size ∧ i = .int .i64 k ∧ a.data.toList.take k = b.data.toList.take k ∧ ∃ n, wr = w.drewN n) (fun i _ => a.size - (intOf i).toNat)
  case atStart => exact ⟨0, Nat.zero_le _, Nat.zero_le _, rfl, rfl, 0, rfl⟩
  case round =>
    obtain ⟨k, hka, hkb, rfl, ht, n, rfl⟩ := hrel
    have HT := hide ht
    clear ht
    by_cases h1 : k < a.size
    · by_cases h2 : k < b.size
      · have hd := hide (K.lt_diff a b k h1 h2 (unhide HT))
        go_wp2
        go_region
        all_goals (try go_wp2)
        · have he : ((a[k].toNat : Int) != (b[k].toNat : Int)) = true := by assumption
          go_region
          all_goals (try go_wp2)
          go_ret
          refine ⟨ret_bool ?_, n + 2, rfl⟩
          rw [unhide hd (byte_ne he)]
          simp [UInt8.lt_iff_toNat_lt]
        · have he : ((a[k].toNat : Int) != (b[k].toNat : Int)) = false := by assumption
          go_roundw
          case rel => exact ⟨k + 1, by omega, by omega, by go_num, by rw [take_snoc_b a k h1, take_snoc_b b k h2, unhide HT, byte_eq he], n + 1, rfl⟩
          case measure => simp [intOf]; omega
      · have hd := hide (K.lt_end a b k (unhide HT) (.inr (by omega)) hka hkb)
        go_wp2
        go_ret
        exact ⟨ret_bool (by rw [unhide hd]; try simp), n, rfl⟩
    · have hd := hide (K.lt_end a b k (unhide HT) (.inl (by omega)) hka hkb)
      go_wp2
      go_ret
      exact ⟨ret_bool (by rw [unhide hd]; try simp), n, rfl⟩

theorem below_b (a b : ByteArray) (w : World) (ha : a.size ≤ maxLen) (r : Bool) (hr : K.lt a b = r) :
    Calls Try.prog 35 #[.string a, .string b] w fun e w' => e = .returned (.bool r) ∧ ∃ n, w' = w.drewN n := by
  rw [← hr]
  exact below_any a b w ha
end Go.Proofs.Ytggojmnalmjapaa
