/-
  The contract of Do, whatever is asked.
-/
import Derived.Test.YtnhhmohicjgpgaaDoW
import Derived.Test.YtnhhmohicjgpgaaDoS
import Derived.Test.YtnhhmohicjgpgaaDoR
import Derived.Test.YtnhhmohicjgpgaaDoD
namespace Go.Proofs.Ytnhhmohicjgpgaa
open Go.RowKit

theorem K.do_yes {kind cap : Int} {L : List Pf} {A B : ByteArray} {z : List Int} {D : List Pf × Int} (hc : K.can kind cap L A = true) (hd : K.deed kind cap L A B z = D) : K.doing kind cap L A B z = (if D.2 = 0 then D.1 else L, D.2) := by
  unfold K.doing
  rw [if_pos hc, hd]
  by_cases h : D.2 = 0
  · simp [h]
  · simp [h]
theorem K.do_no {kind cap : Int} {L : List Pf} {A B : ByteArray} {z : List Int} (hc : K.can kind cap L A = false) : K.doing kind cap L A B z = (L, 1) := by
  unfold K.doing
  rw [if_neg (by simp [hc])]

theorem do_any (kind cap : Int) (v dv : Value) (L : List Pf) (A B : ByteArray) (z : List Int) (w : World) (h : Fl w v L) (hdv : Sl .u8 w dv z) (hz : z.length ≤ 1000) (hA : A.size ≤ maxLen) (hBs : B.size ≤ maxLen) (hf : Fits L) :
    Calls Try.prog 25 #[.agg #[.int .i64 cap, v], .agg #[.int .i64 kind, .string A, .string B, dv]] w fun e w' => ∃ v', e = .returned (.tuple #[.agg #[.int .i64 cap, v'], .int .i64 (K.doing kind cap L A B z).2]) ∧ Fl w' v' (K.doing kind cap L A B z).1 ∧ Below w.heap.size w w' := by
  cases hc : K.can kind cap L A with
  | false =>
    rw [K.do_no hc]
    exact do_no kind cap v dv L A B z w h hdv hA hf hc
  | true =>
    have hc' := hc
    simp only [K.can, Bool.and_eq_true, decide_eq_true_eq] at hc'
    obtain ⟨⟨⟨hmay, hnm⟩, h0⟩, h4⟩ := hc'
    rw [K.do_yes hc rfl]
    have hk : kind = 0 ∨ kind = 1 ∨ kind = 2 ∨ kind = 3 := by omega
    rcases hk with rfl | rfl | rfl | rfl
    · exact do_write cap v dv L A B z w h hdv hz hA hBs hf hmay hnm
    · exact do_sync cap v dv L A B z w h hdv hz hA hBs hf hmay hnm
    · exact do_rename cap v dv L A B z w h hdv hz hA hBs hf hmay hnm
    · exact do_drop cap v dv L A B z w h hdv hz hA hBs hf hmay hnm
end Go.Proofs.Ytnhhmohicjgpgaa
