/-
  Texts put together: Write, Put, Get.
-/
import Derived.Test.YtefnkbgkcjhkoaaRows
import Derived.Test.YtefnkbgkcjhkoaaQ03
import Derived.Test.YtefnkbgkcjhkoaaQ01
import Derived.Test.YtefnkbgkcjhkoaaQ02
/-
  The contract of vint's writer: numbers from 0 to the greatest one, as many as there are, are written as their bytes, one behind the other, into new memory.
-/
namespace Go.Proofs.Ytefnkbgkcjhkoaa
set_option maxRecDepth 100000
open Go.RowKit

theorem Try.info5 : (Try.prog.info? 5).map (fun i => (i.zero, i.size, i.bytes)) = some (some (.int .u8 0), 1, 1) := by kernel_rfl
theorem Try.info3 : (Try.prog.info? 3).map (fun i => (i.zero, i.size, i.bytes)) = some (some (.int .i64 0), 1, 8) := by kernel_rfl

end Go.Proofs.Ytefnkbgkcjhkoaa

/-
  The contracts of Put, the program's and the document's: of a number from 0 to the greatest one its bytes, in new memory; of any other one nothing.
-/
namespace Go.Proofs.Ytefnkbgkcjhkoaa
set_option maxRecDepth 100000
open Go.RowKit

end Go.Proofs.Ytefnkbgkcjhkoaa

/-
  The contract of Get: what it answers of whatever bytes, from whatever place on.
-/
namespace Go.Proofs.Ytefnkbgkcjhkoaa
set_option maxRecDepth 100000
open Go.RowKit

theorem get_of {l : List Int} {p : Nat} (hp : p ≤ l.length) : V.get l p = match V.getH 5 (l.drop p) with | none => (0, 0, 5) | some (n, k) => (n, (p : Int) + k, 0) := by
  unfold V.get
  rw [if_neg (by omega)]
  rfl
theorem get_none {l : List Int} {p : Nat} (hp : p ≤ l.length) (h : V.getH 5 (l.drop p) = none) : V.get l p = (0, 0, 5) := by rw [get_of hp, h]
theorem get_some {l : List Int} {p : Nat} {n : Int} {k : Nat} (hp : p ≤ l.length) (h : V.getH 5 (l.drop p) = some (n, k)) : V.get l p = (n, (p : Int) + k, 0) := by rw [get_of hp, h]
theorem get_arg {l : List Int} {x : Int} (h : x < 0 ∨ (l.length : Int) < x) : V.get l x = (0, 0, 1) := by unfold V.get; rw [if_pos h]
theorem drop_at {l : List Int} {j : Nat} {c : Int} (h : j < l.length) (hc : c = l[j]) : l.drop j = c :: l.drop (j + 1) := by rw [List.drop_eq_getElem_cons h, hc]
theorem ret3 {a b c a' b' c' : Int} (h : (a, b, c) = (a', b', c')) : Ending.returned (.tuple #[.int .i64 a', .int .i64 b', .int .i64 c']) = .returned (.tuple #[.int .i64 a, .int .i64 b, .int .i64 c]) := by
  simp only [Prod.mk.injEq] at h
  rw [h.1, h.2.1, h.2.2]

end Go.Proofs.Ytefnkbgkcjhkoaa
