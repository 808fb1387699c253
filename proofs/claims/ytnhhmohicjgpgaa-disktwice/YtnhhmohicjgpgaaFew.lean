/-
  The contracts of the statements' own Few and few.
-/
import Derived.Test.YtnhhmohicjgpgaaMay
namespace Go.Proofs.Ytnhhmohicjgpgaa
open Go.RowKit

def K.fw (f : Pf) : Bool := decide (f.da.length ≤ 300) && decide (f.nm.size ≤ 40)
def K.few (L : List Pf) : Bool := decide (L.length ≤ 70) && L.all K.fw

theorem K.few_fits {L : List Pf} (h : K.few L = true) : Fits L := by
  simp only [K.few, Bool.and_eq_true, decide_eq_true_eq, List.all_eq_true] at h
  refine ⟨by omega, fun f hf => ?_⟩
  have := h.2 f hf
  simp only [K.fw, Bool.and_eq_true, decide_eq_true_eq] at this
  omega
theorem K.few_len {L : List Pf} (h : K.few L = true) : L.length ≤ 70 := by
  simp only [K.few, Bool.and_eq_true, decide_eq_true_eq] at h
  exact h.1

theorem all_snoc {L : List Pf} {k : Nat} {f : Pf} (hf : L[k]? = some f) (h : (L.take k).all K.fw = true) (h1 : K.fw f = true) : (L.take (k + 1)).all K.fw = true := by
  obtain ⟨hk, rfl⟩ := List.getElem?_eq_some_iff.1 hf
  rw [List.take_succ_eq_append_getElem hk, List.all_append, h]
  simp [h1]
theorem all_not {L : List Pf} {k : Nat} {f : Pf} (hf : L[k]? = some f) (h1 : K.fw f = false) : K.few L = false := by
  have : L.all K.fw = false := by
    rw [List.all_eq_false]
    exact ⟨f, List.mem_of_getElem? hf, by simp [h1]⟩
  simp [K.few, this]

set_option maxHeartbeats 1000000 in
theorem few_any (cap : Int) (v : Value) (L : List Pf) (w : World) (h : Fl w v L) :
    Calls Try.prog 11 #[.agg #[.int .i64 cap, v]] w fun e w' => e = .returned (.bool (K.few L)) ∧ Below w.heap.size w w' := by
  have hll := h.len
  obtain ⟨a, sc, rfl, hl, hm, hna, ho⟩ := h.open
  clear h
  by_cases h70 : 70 < L.length
  · go_enter Try.func11, Try.ntmps11
    go_wp2
    go_ret
    exact ⟨ret_bool (by simp [K.few]; omega), below_alloc _ _⟩
  · go_enter Try.func11, Try.ntmps11
    go_wp2
    go_loop [3] (fun i => ∃ k : Nat, k ≤ L.length ∧ i = .int .i64 k ∧ (L.take k).all K.fw = true) (fun i => L.length - (intOf i).toNat)
    case atStart => exact ⟨0, Nat.zero_le _, rfl, by simp⟩
    case round =>
      obtain ⟨k, hk, rfl, hall⟩ := hrel
      have HA := hide hall
      clear hall
      by_cases hlt : k < L.length
      · obtain ⟨f, hfk⟩ : ∃ f, L[k]? = some f := ⟨L[k], List.getElem?_eq_getElem hlt⟩
        obtain ⟨b, off, rfl, hb, hc⟩ := ho (by omega)
        obtain ⟨fa, fc, e0, e1, e2, e3⟩ := hc k f hfk
        have HF := hide hfk
        clear hc ho e2 e3 hfk
        by_cases h1 : 300 < f.da.length
        · go_wp2
          go_ret
          exact ⟨ret_bool (all_not (unhide HF) (by simp [K.fw]; omega)).symm, below_alloc _ _⟩
        · by_cases h2 : 40 < f.nm.size
          · go_wp2
            go_ret
            exact ⟨ret_bool (all_not (unhide HF) (by simp [K.fw]; omega)).symm, below_alloc _ _⟩
          · go_wp2
            go_round
            case rel => exact ⟨k + 1, by omega, by go_num, all_snoc (unhide HF) (unhide HA) (by simp [K.fw]; omega)⟩
            case measure => simp [intOf]; omega
      · have hA := unhide HA
        rw [List.take_of_length_le (by omega)] at hA
        go_wp2
        go_ret
        exact ⟨ret_bool (by simp only [K.few, hA]; simp; omega), below_alloc _ _⟩

def K.fewOp (A B : ByteArray) (z : List Int) : Bool := decide (z.length ≤ 300) && decide (A.size ≤ 40) && decide (B.size ≤ 40)

set_option maxHeartbeats 1000000 in
theorem fewop_any (kind : Int) (A B : ByteArray) (dv : Value) (z : List Int) (w : World) (h : Sl .u8 w dv z) :
    Calls Try.prog 24 #[.agg #[.int .i64 kind, .string A, .string B, dv]] w fun e w' => e = .returned (.bool (K.fewOp A B z)) ∧ Below w.heap.size w w' := by
  obtain ⟨a, sc, rfl, hl, hm, hna, ho⟩ := h.open
  clear h ho
  by_cases h1 : z.length ≤ 300
  · by_cases h2 : A.size ≤ 40
    · go_enter Try.func24, Try.ntmps24
      go_wp2
      go_ret
      exact ⟨ret_bool (by simp [K.fewOp, h1, h2]; omega), below_alloc _ _⟩
    · go_enter Try.func24, Try.ntmps24
      go_wp2
      go_ret
      exact ⟨ret_bool (by simp [K.fewOp, h2]), below_alloc _ _⟩
  · go_enter Try.func24, Try.ntmps24
    go_wp2
    go_ret
    exact ⟨ret_bool (by simp [K.fewOp, h1]), below_alloc _ _⟩
end Go.Proofs.Ytnhhmohicjgpgaa
