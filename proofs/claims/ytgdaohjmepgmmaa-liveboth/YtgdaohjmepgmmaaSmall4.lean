/-
  The contracts of layer 4's small functions: how many, may it be, are two lists the same.
-/
import Derived.Test.YtgdaohjmepgmmaaRows
import Derived.Test.YtgdaohjmepgmmaaGBase
import Derived.Test.YtgdaohjmepgmmaaHelp
import Derived.Test.YtgdaohjmepgmmaaPlain4
import Derived.Deep.QuietTactic
import Derived.BigQuiet
namespace Go.Proofs.Ytgdaohjmepgmmaa
open Go.RowKit

theorem leq_num (n k : Nat) : decide ((n : Int) ≤ (k : Int)) = decide (n ≤ k) := by
  by_cases h : n ≤ k
  · simp [h]
  · simp [h]

theorem few_any (v : Value) (l : List Bool) (w : World) (h : Gl .bool w v l) (r : Bool) (hr : decide (l.length ≤ 100) = r) :
    Calls Try.prog 11 #[v] w fun e w' => e = .returned (.bool r) ∧ Below w.heap.size w w' := by
  obtain ⟨a, cap, rfl, hl, hm, hna, ho⟩ := h.open
  clear h ho hna
  go_enter Try.func11, Try.ntmps11
  go_wp2
  go_ret
  exact ⟨by rw [← hr, ← leq_num]; rfl, Below.refl _ _⟩

theorem may_any (v : Value) (l : List Bool) (w : World) (h : Gl .bool w v l) (r : Bool) (hr : decide (l.length ≤ 64) = r) :
    Calls Try.prog 19 #[v] w fun e w' => e = .returned (.bool r) ∧ w' = w := by
  obtain ⟨a, cap, rfl, hl, hm, hna, ho⟩ := h.open
  clear h ho hna
  go_enter Try.func19, Try.ntmps19
  go_wp2
  go_ret
  exact ⟨by rw [← hr, ← leq_num]; rfl, rfl⟩

theorem rmay_any (v : Value) (l : List Bool) (w : World) (h : Gl .bool w v l) (r : Bool) (hr : decide (l.length ≤ 64) = r) :
    Calls Try.prog 20 #[v] w fun e w' => e = .returned (.bool r) ∧ w' = w := by
  obtain ⟨a, cap, rfl, hl, hm, hna, ho⟩ := h.open
  clear h ho hna
  go_enter Try.func20, Try.ntmps20
  go_wp2
  go_ret
  exact ⟨by rw [← hr, ← leq_num]; rfl, rfl⟩

theorem count_step {l : List Bool} {k : Nat} {x : Bool} (h : l[k]? = some x) : (l.take (k + 1)).count true = (l.take k).count true + (if x = true then 1 else 0) := by
  obtain ⟨hk, rfl⟩ := List.getElem?_eq_some_iff.1 h
  rw [List.take_succ_eq_append_getElem hk, List.count_append]
  cases l[k] <;> simp

theorem count_le (l : List Bool) : l.count true ≤ l.length := List.count_le_length

set_option maxHeartbeats 400000 in
theorem count_any (v : Value) (l : List Bool) (w : World) (h : Gl .bool w v l) :
    Calls Try.prog 21 #[v] w fun e w' => e = .returned (.int .i64 (L.count l)) ∧ w' = w := by
  have hlen := h.len
  obtain ⟨a, cap, rfl, hl, hm, hna, ho⟩ := h.open
  clear h
  go_enter Try.func21, Try.ntmps21
  go_wp2
  go_loop [3, 7] (fun mv iv => ∃ k m : Nat, k ≤ l.length ∧ iv = .int .i64 k ∧ mv = .int .i64 m ∧ m = (l.take k).count true) (fun _ iv => l.length - (intOf iv).toNat)
  case atStart => exact ⟨0, 0, Nat.zero_le _, rfl, rfl, by simp⟩
  case round =>
    obtain ⟨k, m, hk, rfl, rfl, hcm⟩ := hrel
    have hml : m ≤ k := by rw [hcm]; exact Nat.le_trans (count_le _) (by simp; omega)
    have HM := hide hcm
    clear hcm
    by_cases hlt : k < l.length
    · obtain ⟨b, off, rfl, hb, hc⟩ := ho (by omega)
      obtain ⟨x, hx⟩ : ∃ x, l[k]? = some x := ⟨l[k], List.getElem?_eq_getElem hlt⟩
      have c1 := hc k x hx
      have HX := hide hx
      clear hc ho hx
      cases x with
      | true =>
        go_wp2
        go_round
        case rel => exact ⟨k + 1, m + 1, by omega, by go_num, by go_num, by rw [count_step (unhide HX), ← unhide HM]; rfl⟩
        case measure => simp [intOf]; omega
      | false =>
        go_wp2
        go_round
        case rel => exact ⟨k + 1, m, by omega, by go_num, rfl, by rw [count_step (unhide HX), ← unhide HM]; rfl⟩
        case measure => simp [intOf]; omega
    · go_wp2
      go_ret
      have hm2 := unhide HM
      rw [List.take_of_length_le (by omega)] at hm2
      exact ⟨by rw [hm2]; rfl, rfl⟩

set_option maxHeartbeats 400000 in
theorem rcount_any (v : Value) (l : List Bool) (w : World) (h : Gl .bool w v l) :
    Calls Try.prog 22 #[v] w fun e w' => e = .returned (.int .i64 (L.count l)) ∧ w' = w := by
  have hlen := h.len
  obtain ⟨a, cap, rfl, hl, hm, hna, ho⟩ := h.open
  clear h
  go_enter Try.func22, Try.ntmps22
  go_wp2
  go_loop [3, 4] (fun mv iv => ∃ k m : Nat, k ≤ l.length ∧ iv = .int .i64 k ∧ mv = .int .i64 m ∧ m = (l.take k).count true) (fun _ iv => l.length - (intOf iv).toNat)
  case atStart => exact ⟨0, 0, Nat.zero_le _, rfl, rfl, by simp⟩
  case round =>
    obtain ⟨k, m, hk, rfl, rfl, hcm⟩ := hrel
    have hml : m ≤ k := by rw [hcm]; exact Nat.le_trans (count_le _) (by simp; omega)
    have HM := hide hcm
    clear hcm
    by_cases hlt : k < l.length
    · obtain ⟨b, off, rfl, hb, hc⟩ := ho (by omega)
      obtain ⟨x, hx⟩ : ∃ x, l[k]? = some x := ⟨l[k], List.getElem?_eq_getElem hlt⟩
      have c1 := hc k x hx
      have HX := hide hx
      clear hc ho hx
      cases x with
      | true =>
        go_wp2
        go_round
        case rel => exact ⟨k + 1, m + 1, by omega, by go_num, by go_num, by rw [count_step (unhide HX), ← unhide HM]; rfl⟩
        case measure => simp [intOf]; omega
      | false =>
        go_wp2
        go_round
        case rel => exact ⟨k + 1, m, by omega, by go_num, rfl, by rw [count_step (unhide HX), ← unhide HM]; rfl⟩
        case measure => simp [intOf]; omega
    · go_wp2
      go_ret
      have hm2 := unhide HM
      rw [List.take_of_length_le (by omega)] at hm2
      exact ⟨by rw [hm2]; rfl, rfl⟩

theorem width_any (n : Nat) (hn : n ≤ 9223372036854775000) (w : World) :
    Calls Try.prog 33 #[.int .i64 (n : Int)] w fun e w' => e = .returned (.int .i64 (L.width n)) ∧ w' = w := by
  go_enter Try.func33, Try.ntmps33
  go_wp2
  go_ret
  exact ⟨by simp [L.width]; omega, rfl⟩
end Go.Proofs.Ytgdaohjmepgmmaa
