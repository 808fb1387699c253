/-
  The contracts of the document's own comparisons of cards, at cards that are the same.
-/
import Derived.Test.YtonhehhmnobciaaKBase8
import Derived.Test.YtonhehhmnobciaaTexts7
import Derived.BigQuiet
namespace Go.Proofs.Ytonhehhmnobciaa
set_option maxRecDepth 100000
open Go.RowKit

end Go.Proofs.Ytonhehhmnobciaa
