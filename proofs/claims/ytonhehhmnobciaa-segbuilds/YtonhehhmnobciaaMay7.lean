/-
  The contracts of May, the program's and the document's own, and of the statements' own Few.
-/
import Derived.Test.YtonhehhmnobciaaPlain7
namespace Go.Proofs.Ytonhehhmnobciaa
set_option maxRecDepth 100000
open Go.RowKit

theorem drop_cons {α : Type} {l : List α} {k : Nat} {x : α} (h : l[k]? = some x) : l.drop k = x :: l.drop (k + 1) := by
  obtain ⟨hk, rfl⟩ := List.getElem?_eq_some_iff.1 h
  exact List.drop_eq_getElem_cons hk

theorem ret_int7 {a b : Int} (h : a = b) : Ending.returned (.int .i64 a) = .returned (.int .i64 b) := by rw [h]

theorem may_up_iff {l : List ByteArray} (h : l.length ≤ 200) : D.may l = D.up ⟨#[]⟩ l := by simp [D.may, h]
theorem may_long {l : List ByteArray} (h : 200 < l.length) : D.may l = false := by simp [D.may]; omega

set_option maxHeartbeats 1000000 in
theorem may_any (v : Value) (l : List ByteArray) (w : World) (h : Gl .string w v l) (r : Bool) (hr : D.may l = r) :
    Calls Try.prog 67 #[v] w fun e w' => e = .returned (.bool r) ∧ w' = w := by
  obtain ⟨a, cap, rfl, hl, hm, hna, ho⟩ := h.open
  clear h
  by_cases h2 : 200 < l.length
  · rw [may_long h2] at hr
    subst hr
    have g : (200 : Int) < (l.length : Int) := by omega
    clear ho
    go_enter Try.func67, Try.ntmps67
    go_wp2
    go_ret
    exact ⟨rfl, rfl⟩
  · rw [may_up_iff (by omega)] at hr
    have g : ¬ (200 : Int) < (l.length : Int) := by omega
    have HR := hide hr
    clear hr
    go_enter Try.func67, Try.ntmps67
    go_wp2
    go_loop [3, 11] (fun av iv => ∃ (k : Nat) (y : ByteArray), k ≤ l.length ∧ iv = .int .i64 k ∧ av = .string y ∧ Hid (D.up y (l.drop k) = r)) (fun _ iv => l.length - (intOf iv).toNat)
    case atStart => exact ⟨0, _, Nat.zero_le _, rfl, rfl, unhide HR⟩
    case round =>
      obtain ⟨k, y, hk, rfl, rfl, HK⟩ := hrel
      by_cases hlt : k < l.length
      · obtain ⟨b, off, rfl, hb, hc⟩ := ho (by omega)
        obtain ⟨x, hx⟩ : ∃ x, l[k]? = some x := ⟨l[k], List.getElem?_eq_getElem hlt⟩
        have c1 := hc k x hx
        have hs := unhide HK
        rw [drop_cons hx, D.up] at hs
        have hle := K.le_not x y
        clear ho hc hx HK
        cases hxy : K.lt y x with
        | false =>
          rw [hxy] at hle hs
          have HS : Hid (r = false) := by show _ = _; rw [← hs]; rfl
          clear hs
          go_wp2
          go_ret
          exact ⟨ret_bool (unhide HS).symm, rfl⟩
        | true =>
          rw [hxy] at hle hs
          by_cases h3 : 32 < x.size
          · have g3 : (32 : Int) < (x.size : Int) := by omega
            have HS : Hid (r = false) := by show _ = _; rw [← hs]; simp; omega
            clear hs
            go_wp2
            go_ret
            exact ⟨ret_bool (unhide HS).symm, rfl⟩
          · have g3 : ¬ (32 : Int) < (x.size : Int) := by omega
            have HS : Hid (D.up x (l.drop (k + 1)) = r) := by show _ = _; rw [← hs]; simp; omega
            clear hs
            go_wp2
            go_round
            case rel => exact ⟨k + 1, x, by omega, by go_num, rfl, unhide HS⟩
            case measure => simp [intOf]; omega
      · have HS : Hid (r = true) := by
          show _ = _
          rw [← unhide HK, List.drop_eq_nil_of_le (by omega)]
          rfl
        go_wp2
        go_ret
        exact ⟨ret_bool (unhide HS).symm, rfl⟩

/-- The one ahead. -/
def D.prev (l : List ByteArray) : Nat → ByteArray
  | 0 => ⟨#[]⟩
  | k + 1 => l.getD k ⟨#[]⟩
theorem D.prev_succ {l : List ByteArray} {k : Nat} {x : ByteArray} (h : l[k]? = some x) : D.prev l (k + 1) = x := by simp [D.prev, List.getD, h]

/-- At most 210 words, of at most 40 bytes each. -/
def D.few (l : List ByteArray) : Bool := decide (l.length ≤ 210) && l.all fun x => decide (x.size ≤ 40)
theorem D.few_len {l : List ByteArray} (h : D.few l = true) : l.length ≤ 210 := by
  simp only [D.few, Bool.and_eq_true, decide_eq_true_eq] at h
  exact h.1
theorem D.few_size {l : List ByteArray} (h : D.few l = true) : ∀ x ∈ l, x.size ≤ 40 := by
  simp only [D.few, Bool.and_eq_true, List.all_eq_true, decide_eq_true_eq] at h
  exact h.2

end Go.Proofs.Ytonhehhmnobciaa
