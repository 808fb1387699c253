/-
  The contract of the document's own Do, whatever is asked.
-/
import Derived.Test.YtnhhmohicjgpgaaDoAll
import Derived.Test.YtnhhmohicjgpgaaRDoW
import Derived.Test.YtnhhmohicjgpgaaRDoS
import Derived.Test.YtnhhmohicjgpgaaRDoR
import Derived.Test.YtnhhmohicjgpgaaRDoD
namespace Go.Proofs.Ytnhhmohicjgpgaa
open Go.RowKit

theorem rdo_any (kind cap : Int) (v dv : Value) (L : List Pf) (A B : ByteArray) (z : List Int) (w : World) (h : Fl w v L) (hdv : Sl .u8 w dv z) (hz : z.length ≤ 1000) (hA : A.size ≤ maxLen) (hBs : B.size ≤ maxLen) (hf : Fits L) :
    Calls Try.prog 26 #[.agg #[.int .i64 cap, v], .agg #[.int .i64 kind, .string A, .string B, dv]] w fun e w' => ∃ v', e = .returned (.tuple #[.agg #[.int .i64 cap, v'], .int .i64 (K.doing kind cap L A B z).2]) ∧ Fl w' v' (K.doing kind cap L A B z).1 ∧ Below w.heap.size w w' := by
  cases hc : K.can kind cap L A with
  | false =>
    rw [K.do_no hc]
    exact rdo_no kind cap v dv L A B z w h hdv hA hc hf
  | true =>
    have hc' := hc
    simp only [K.can, Bool.and_eq_true, decide_eq_true_eq] at hc'
    obtain ⟨⟨⟨hmay, hnm⟩, h0⟩, h4⟩ := hc'
    rw [K.do_yes hc rfl]
    have hk : kind = 0 ∨ kind = 1 ∨ kind = 2 ∨ kind = 3 := by omega
    rcases hk with rfl | rfl | rfl | rfl
    · exact rdo_write cap v dv L A B z w h hdv hA hz hmay hnm hf
    · exact rdo_sync cap v dv L A B z w h hdv hA hBs hmay hnm hf
    · exact rdo_rename cap v dv L A B z w h hdv hA hBs hmay hnm hf
    · exact rdo_drop cap v dv L A B z w h hdv hA hBs hmay hnm hf
end Go.Proofs.Ytnhhmohicjgpgaa
