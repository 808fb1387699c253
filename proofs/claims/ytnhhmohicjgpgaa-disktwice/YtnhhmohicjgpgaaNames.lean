/-
  The contracts of isName and Name: may a file have that name? Of Below: is a text below another one?
-/
import Derived.Test.YtnhhmohicjgpgaaPlainDisk
import Derived.Deep.QuietTactic
import Derived.BigQuiet
namespace Go.Proofs.Ytnhhmohicjgpgaa
open Go.RowKit

theorem ret_bool {a b : Bool} (h : a = b) : Ending.returned (.bool a) = .returned (.bool b) := by rw [h]

theorem K.ch_iff (c : UInt8) : K.ch c = true ↔ ((97 ≤ (c.toNat : Int) ∧ (c.toNat : Int) ≤ 122) ∨ (48 ≤ (c.toNat : Int) ∧ (c.toNat : Int) ≤ 57)) ∨ (c.toNat : Int) = 46 := by
  unfold K.ch
  have e : (c == 46) = decide (c.toNat = 46) := by
    rw [Bool.eq_iff_iff]; simp only [beq_iff_eq, decide_eq_true_eq]
    exact ⟨fun h => by rw [h]; rfl, fun h => UInt8.toNat_inj.1 h⟩
  rw [e]
  simp only [Bool.or_eq_true, Bool.and_eq_true, decide_eq_true_eq, UInt8.le_iff_toNat_le]
  simp
  omega

theorem K.chars_snoc (s : ByteArray) (k : Nat) (h : k < s.size) : K.chars (s.data.toList.take (k + 1)) = (K.chars (s.data.toList.take k) && K.ch s[k]) := by
  rw [List.take_succ_eq_append_getElem (by simpa using h)]
  simp [K.chars]
  rfl

theorem K.chars_false (s : ByteArray) (k : Nat) (h : k < s.size) (hc : K.ch s[k] = false) : K.chars s.data.toList = false := by
  unfold K.chars
  rw [List.all_eq_false]
  exact ⟨s[k], by have : s[k] = s.data.toList[k]'(by simpa using h) := rfl
                  rw [this]; exact List.getElem_mem _, by simp [hc]⟩

set_option maxHeartbeats 1000000 in
theorem isName_any (s : ByteArray) (w : World) (hs : s.size ≤ maxLen) :
    Calls Try.prog 33 #[.string s] w fun e w' => e = .returned (.bool (K.name s)) ∧ w' = w := by
  unfold maxLen at hs
  by_cases h1 : 1 ≤ s.size
  · by_cases h2 : s.size ≤ 24
    · go_enter Try.func33, Try.ntmps33
      go_wp2
      go_loop [15] (fun i => ∃ k : Nat, k ≤ s.size ∧ i = .int .i64 k ∧ K.chars (s.data.toList.take k) = true) (fun i => s.size - (intOf i).toNat)
      case atStart => exact ⟨0, Nat.zero_le _, rfl, by simp [K.chars]⟩
      case round =>
        obtain ⟨k, hk, rfl, hck⟩ := hrel
        have HC := hide hck
        clear hck
        by_cases hlt : k < s.size
        · have hsn := hide (K.chars_snoc s k hlt)
          have hfa := hide (K.chars_false s k hlt)
          have hci := hide (K.ch_iff s[k])
          go_wp2
          all_goals (try rw [bne_iff_ne] at *)
          all_goals (try rw [bne_eq_false_iff_eq] at *)
          all_goals first
            | (have hc : K.ch s[k] = true := (unhide hci).2 (by omega)
               go_round
               case rel => exact ⟨k + 1, by omega, by go_num, by rw [unhide hsn, hc, unhide HC]; rfl⟩
               case measure => simp [intOf]; omega)
            | (have hc : K.ch s[k] = false := by rw [← Bool.not_eq_true, unhide hci]; omega
               go_ret
               exact ⟨ret_bool (by simp [K.name, unhide hfa hc]), rfl⟩)
            | trace_state
        · go_wp2
          go_ret
          refine ⟨ret_bool ?_, rfl⟩
          have := unhide HC
          rw [List.take_of_length_le (by simp; omega)] at this
          simp [K.name, h1, h2, this]
    · go_enter Try.func33, Try.ntmps33
      go_wp2
      go_ret
      exact ⟨ret_bool (by simp [K.name, h2]), rfl⟩
  · go_enter Try.func33, Try.ntmps33
    go_wp2
    go_ret
    exact ⟨ret_bool (by simp [K.name, h1]), rfl⟩

set_option maxHeartbeats 1000000 in
theorem name_any (s : ByteArray) (w : World) (hs : s.size ≤ maxLen) :
    Calls Try.prog 30 #[.string s] w fun e w' => e = .returned (.bool (K.name s)) ∧ w' = w := by
  unfold maxLen at hs
  go_enter Try.func30, Try.ntmps30
  go_wp2
  go_loop [3] (fun i => ∃ k : Nat, k ≤ s.size ∧ i = .int .i64 k ∧ K.chars (s.data.toList.take k) = true) (fun i => s.size - (intOf i).toNat)
  case atStart => exact ⟨0, Nat.zero_le _, rfl, by simp [K.chars]⟩
  case round =>
    obtain ⟨k, hk, rfl, hck⟩ := hrel
    have HC := hide hck
    clear hck
    by_cases hlt : k < s.size
    · have hsn := hide (K.chars_snoc s k hlt)
      have hfa := hide (K.chars_false s k hlt)
      have hci := hide (K.ch_iff s[k])
      go_wp2
      all_goals (try rw [bne_iff_ne] at *)
      all_goals (try rw [bne_eq_false_iff_eq] at *)
      all_goals first
        | (have hc : K.ch s[k] = true := (unhide hci).2 (by omega)
           go_round
           case rel => exact ⟨k + 1, by omega, by go_num, by rw [unhide hsn, hc, unhide HC]; rfl⟩
           case measure => simp [intOf]; omega)
        | (have hc : K.ch s[k] = false := by rw [← Bool.not_eq_true, unhide hci]; omega
           go_ret
           exact ⟨ret_bool (by simp [K.name, unhide hfa hc]), rfl⟩)
    · have hch : K.chars s.data.toList = true := by
        have := unhide HC
        rwa [List.take_of_length_le (by simp; omega)] at this
      have hch := hide hch
      by_cases h1 : 1 ≤ s.size
      · by_cases h2 : s.size ≤ 24
        all_goals
          go_wp2
          go_ret
          exact ⟨ret_bool (by simp [K.name, h1, h2, unhide hch]; try omega), rfl⟩
      · go_wp2
        go_ret
        exact ⟨ret_bool (by simp [K.name, h1]), rfl⟩

theorem byte_ne {a b : UInt8} (h : ((a.toNat : Int) != (b.toNat : Int)) = true) : a ≠ b := by
  rintro rfl
  simp at h
theorem byte_eq {a b : UInt8} (h : ((a.toNat : Int) != (b.toNat : Int)) = false) : a = b := by
  rw [bne_eq_false_iff_eq] at h
  exact UInt8.toNat_inj.1 (by omega)
theorem take_snoc_b (s : ByteArray) (k : Nat) (h : k < s.size) : s.data.toList.take (k + 1) = s.data.toList.take k ++ [s[k]] := by
  rw [List.take_succ_eq_append_getElem (by simpa using h)]; rfl

set_option maxHeartbeats 1000000 in
theorem below_any (a b : ByteArray) (w : World) (ha : a.size ≤ maxLen) :
    Calls Try.prog 31 #[.string a, .string b] w fun e w' => e = .returned (.bool (K.lt a b)) ∧ ∃ n, w' = w.drewN n := by
  unfold maxLen at ha
  go_enter Try.func31, Try.ntmps31
  go_wp2
  go_loopw [5] (fun i wr => ∃ k : Nat, k ≤ a.size ∧ k ≤ b.size ∧ i = .int .i64 k ∧ a.data.toList.take k = b.data.toList.take k ∧ ∃ n, wr = w.drewN n) (fun i _ => a.size - (intOf i).toNat)
  case atStart => exact ⟨0, Nat.zero_le _, Nat.zero_le _, rfl, rfl, 0, rfl⟩
  case round =>
    obtain ⟨k, hka, hkb, rfl, ht, n, rfl⟩ := hrel
    have HT := hide ht
    clear ht
    by_cases h1 : k < a.size
    · by_cases h2 : k < b.size
      · have hd := hide (K.lt_diff a b k h1 h2 (unhide HT))
        go_wp2
        go_region
        all_goals (try go_wp2)
        · have he : ((a[k].toNat : Int) != (b[k].toNat : Int)) = true := by assumption
          go_region
          all_goals (try go_wp2)
          go_ret
          refine ⟨ret_bool ?_, n + 2, rfl⟩
          rw [unhide hd (byte_ne he)]
          simp [UInt8.lt_iff_toNat_lt]
        · have he : ((a[k].toNat : Int) != (b[k].toNat : Int)) = false := by assumption
          go_roundw
          case rel => exact ⟨k + 1, by omega, by omega, by go_num, by rw [take_snoc_b a k h1, take_snoc_b b k h2, unhide HT, byte_eq he], n + 1, rfl⟩
          case measure => simp [intOf]; omega
      · have hd := hide (K.lt_end a b k (unhide HT) (.inr (by omega)) hka hkb)
        go_wp2
        go_ret
        exact ⟨ret_bool (by rw [unhide hd]; try simp), n, rfl⟩
    · have hd := hide (K.lt_end a b k (unhide HT) (.inl (by omega)) hka hkb)
      go_wp2
      go_ret
      exact ⟨ret_bool (by rw [unhide hd]; try simp), n, rfl⟩

theorem below_b (a b : ByteArray) (w : World) (ha : a.size ≤ maxLen) (r : Bool) (hr : K.lt a b = r) :
    Calls Try.prog 31 #[.string a, .string b] w fun e w' => e = .returned (.bool r) ∧ ∃ n, w' = w.drewN n := by
  rw [← hr]
  exact below_any a b w ha
theorem isName_b (s : ByteArray) (w : World) (hs : s.size ≤ maxLen) (r : Bool) (hr : K.name s = r) :
    Calls Try.prog 33 #[.string s] w fun e w' => e = .returned (.bool r) ∧ w' = w := by
  rw [← hr]
  exact isName_any s w hs
theorem name_b (s : ByteArray) (w : World) (hs : s.size ≤ maxLen) (r : Bool) (hr : K.name s = r) :
    Calls Try.prog 30 #[.string s] w fun e w' => e = .returned (.bool r) ∧ w' = w := by
  rw [← hr]
  exact name_any s w hs
end Go.Proofs.Ytnhhmohicjgpgaa
