/-
  The contracts of Put, the program's and the document's: of a number from 0 to the greatest one its bytes, in new memory; of any other one nothing.
-/
import Derived.Test.YtggojmnalmjapaaWrite
namespace Go.Proofs.Ytggojmnalmjapaa
set_option maxRecDepth 100000
open Go.RowKit

end Go.Proofs.Ytggojmnalmjapaa
