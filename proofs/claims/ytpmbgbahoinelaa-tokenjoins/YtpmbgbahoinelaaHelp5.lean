/-
  Small steps that every walk takes: worlds one behind the other, equations that are set aside.
-/
import Derived.Test.YtpmbgbahoinelaaBase
import Derived.Test.YtpmbgbahoinelaaGBase
namespace Go.Proofs.Ytpmbgbahoinelaa
open Go.RowKit

theorem hide {p : Prop} (h : p) : Hid p := h
theorem unhide {p : Prop} (h : Hid p) : p := h
theorem below_all {w w1 : World} (h : Below w.heap.size w w1) (o : Obj) : Below w.heap.size w (w1.alloc o) := h.alloc h.size o
theorem below_dr {w w1 : World} (h : Below w.heap.size w w1) (n : Nat) : Below w.heap.size w (w1.drewN n) := ⟨h.os, h.tape, h.output, h.size, h.block⟩
end Go.Proofs.Ytpmbgbahoinelaa
