/-
  The contract of vint's writer: numbers from 0 to the greatest one, as many as there are, are written as their bytes, one behind the other, into new memory.
-/
import Derived.Test.YtggojmnalmjapaaRows
import Derived.Test.YtggojmnalmjapaaBase
import Derived.Test.YtggojmnalmjapaaPlain
namespace Go.Proofs.Ytggojmnalmjapaa
set_option maxRecDepth 100000
open Go.RowKit

theorem Try.info5 : (Try.prog.info? 5).map (fun i => (i.zero, i.size, i.bytes)) = some (some (.int .u8 0), 1, 1) := by kernel_rfl
theorem Try.info3 : (Try.prog.info? 3).map (fun i => (i.zero, i.size, i.bytes)) = some (some (.int .i64 0), 1, 8) := by kernel_rfl

end Go.Proofs.Ytggojmnalmjapaa
