/-
  Small steps that every walk over slices of bytes takes: worlds one behind the other, and the contracts of Get and Bytes with the answer named.
-/
import Derived.Test.YtggojmnalmjapaaGet
import Derived.Test.YtggojmnalmjapaaSame
namespace Go.Proofs.Ytggojmnalmjapaa
set_option maxRecDepth 100000
open Go.RowKit

theorem hide {p : Prop} (h : p) : Hid p := h
theorem unhide {p : Prop} (h : Hid p) : p := h

theorem byt_of {l : List Int} (h : l.all (fun c => decide (0 ≤ c ∧ c ≤ 255)) = true) : V.Byt l := fun c hc => by simpa using List.all_eq_true.1 h c hc

theorem below_all {w w1 : World} (h : Below w.heap.size w w1) (o : Obj) : Below w.heap.size w (w1.alloc o) := h.alloc h.size o
theorem below_dr {w w1 : World} (h : Below w.heap.size w w1) (n : Nat) : Below w.heap.size w (w1.drewN n) := ⟨h.os, h.tape, h.output, h.size, h.block⟩

end Go.Proofs.Ytggojmnalmjapaa
