/-
  Contracts with their answers named, as the statements' walks take them.
-/
import Derived.Test.YtnhhmohicjgpgaaFew
import Derived.Test.YtnhhmohicjgpgaaAwake3
import Derived.Test.YtnhhmohicjgpgaaRDoAll
import Derived.Test.YtnhhmohicjgpgaaRCrash
namespace Go.Proofs.Ytnhhmohicjgpgaa
open Go.RowKit

theorem few_b (cap : Int) (v : Value) (L : List Pf) (w : World) (h : Fl w v L) (r : Bool) (hr : K.few L = r) :
    Calls Try.prog 11 #[.agg #[.int .i64 cap, v]] w fun e w' => e = .returned (.bool r) ∧ Below w.heap.size w w' := by
  rw [← hr]
  exact few_any cap v L w h
theorem fewop_b (kind : Int) (A B : ByteArray) (dv : Value) (z : List Int) (w : World) (h : Sl .u8 w dv z) (r : Bool) (hr : K.fewOp A B z = r) :
    Calls Try.prog 24 #[.agg #[.int .i64 kind, .string A, .string B, dv]] w fun e w' => e = .returned (.bool r) ∧ Below w.heap.size w w' := by
  rw [← hr]
  exact fewop_any kind A B dv z w h
theorem rdo_b (kind cap : Int) (v dv : Value) (L : List Pf) (A B : ByteArray) (z : List Int) (w : World) (h : Fl w v L) (hdv : Sl .u8 w dv z) (hz : z.length ≤ 1000) (hA : A.size ≤ maxLen) (hBs : B.size ≤ maxLen) (hf : Fits L) (M : List Pf) (r : Int) (hr : K.doing kind cap L A B z = (M, r)) :
    Calls Try.prog 26 #[.agg #[.int .i64 cap, v], .agg #[.int .i64 kind, .string A, .string B, dv]] w fun e w' => ∃ v', e = .returned (.tuple #[.agg #[.int .i64 cap, v'], .int .i64 r]) ∧ Fl w' v' M ∧ Below w.heap.size w w' := by
  have := rdo_any kind cap v dv L A B z w h hdv hz hA hBs hf
  rw [hr] at this
  exact this
theorem rcrash_b (cap : Int) (v pv : Value) (L : List Pf) (ps : List Int) (w : World) (h : Fl w v L) (hp : Sl .i64 w pv ps) (hf : Fits L) (M : List Pf) (hr : (if K.may cap L = true then K.crash L ps else L) = M) :
    Calls Try.prog 28 #[.agg #[.int .i64 cap, v], pv] w fun e w' => ∃ v', e = .returned (.agg #[.int .i64 cap, v']) ∧ Fl w' v' M ∧ Below w.heap.size w w' := by
  rw [← hr]
  exact rcrash_any cap v pv L ps w h hp hf
theorem fewop_len {A B : ByteArray} {z : List Int} (h : K.fewOp A B z = true) : z.length ≤ 300 ∧ A.size ≤ 40 ∧ B.size ≤ 40 := by
  simp only [K.fewOp, Bool.and_eq_true, decide_eq_true_eq] at h
  omega
theorem len_of_size {s : ByteArray} {n : Nat} (h : s.size ≤ n) (hn : n ≤ 1000000) : s.size ≤ maxLen := by unfold maxLen; omega
end Go.Proofs.Ytnhhmohicjgpgaa
