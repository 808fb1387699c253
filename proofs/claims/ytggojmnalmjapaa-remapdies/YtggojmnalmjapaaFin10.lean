/-
  All of layer 10's walks beside Order's contract.
-/
import Derived.Test.YtggojmnalmjapaaOrder10
import Derived.Test.YtggojmnalmjapaaROrder10
import Derived.Test.YtggojmnalmjapaaTells10
import Derived.Test.YtggojmnalmjapaaTabTurn10
import Derived.Test.YtggojmnalmjapaaSorts10
import Derived.Test.YtggojmnalmjapaaDies10
namespace Go.Proofs.Ytggojmnalmjapaa
set_option maxRecDepth 100000
open Go.RowKit Go.Deep
theorem orderC : OrderC := fun kv iv keys ids w hk hi => order_any kv iv keys ids w hk hi
theorem rorderC : ROrderC := fun kv iv keys ids w hk hi hz => rorder_any kv iv keys ids w hk hi hz
end Go.Proofs.Ytggojmnalmjapaa
