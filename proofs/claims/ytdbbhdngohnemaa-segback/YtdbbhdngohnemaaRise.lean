/-
  The contracts of the program's test for rising lists, and of Rise.
-/
import Derived.Test.YtdbbhdngohnemaaPut
import Derived.Test.YtdbbhdngohnemaaPlainList
namespace Go.Proofs.Ytdbbhdngohnemaa
open Go.RowKit

theorem dropAt {l : List Int} {j : Nat} {c : Int} (h : j < l.length) (hc : c = l[j]) : l.drop j = c :: l.drop (j + 1) := by rw [List.drop_eq_getElem_cons h, hc]

end Go.Proofs.Ytdbbhdngohnemaa
