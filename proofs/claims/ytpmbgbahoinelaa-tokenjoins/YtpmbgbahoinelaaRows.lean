/-
  No cell of these rows narrows 'for every input' (looked for: loops, veiled, ifaces, maps, wideKeys, modest, calm, conditions, laid).
  DERIVED. THE GIVEN ROWS OF THIS SEAT. 7 by the template 'for every input the law returns true; each argument reads behind the call as it read before'; 0 by the template 'total and deterministic' (their statements: YtpmbgbahoinelaaTotals.lean).
  GIVEN WITH THE SEED: the statements are not yours to turn. If you find one false, say at which input.
  Laid BY PROGRAM, IN A SANDBOX (cutbox-rows.mjs): the forced cells as the released guide's own fill.sh prints them over the translation 553513d7395f21b3… (all of the seat's roots in one cut). By AI agents, Wed Nov 11 2026. No macro, syntax, notation, axiom, sorry.
-/
import Derived.Test.YtpmbgbahoinelaaChecked
import GoSem.Claim
import GoSem.ClaimJoined
import GoSem.ClaimMapViews
import Derived.JoinedTies
import Derived.KernelRfl
namespace Go.Proofs.Ytpmbgbahoinelaa
/- THE CELL 'sum', in the pinned program and in every row, IS THE sha256 OF THE DUMP (.gsa) THAT YtpmbgbahoinelaaProg.lean LOADS. Nothing in Lean hashes anything: it is a label: what it is worth is what the hold of that sum in a sandbox is worth. -/
noncomputable def Try.pinned : Pinned := { name := "ytpmbgbahoinelaa", sum := "553513d7395f21b364e8a8b4c6a193466be5a09a2e6ef5ce3595f51c798610cf", checked := Try.checked }
namespace Rows
def none {H : Type} : Left H := { results := [], args := [] }

/-- 'catchwordlaw05.TokenTells': WHATEVER THE INPUT: true; the input reads as it did. -/
def tokenTellsSpec : ChangeSpec := { name := "tokenTells", fn := fun _ => fun
  | [d] => { results := [.lit (.bool true)], args := [d] }
  | _ => none }
def tokenTellsRow : OpenClaim := { program := "ytpmbgbahoinelaa", sum := "553513d7395f21b364e8a8b4c6a193466be5a09a2e6ef5ce3595f51c798610cf", func := "catchword/catchwordlaw05.TokenTells", spec := "tokenTells", apart := false }
def TokenTellsSaid : Prop := tokenTellsRow.holds Try.pinned (OpenSpec.ofChange tokenTellsSpec)

/-- ITS FALSE NEIGHBOUR: 'it returns false'. Refute it at one input. -/
def tokenTellsWrong : ChangeSpec := { name := "tokenTells", fn := fun _ => fun
  | [d] => { results := [.lit (.bool false)], args := [d] }
  | _ => none }
def TokenTellsWrongFalsely : Prop := tokenTellsRow.holds Try.pinned (OpenSpec.ofChange tokenTellsWrong)

/-- 'catchwordlaw05.TokenCards': WHATEVER THE INPUT: true; the input reads as it did. -/
def tokenCardsSpec : ChangeSpec := { name := "tokenCards", fn := fun _ => fun
  | [d1, d2, d3] => { results := [.lit (.bool true)], args := [d1, d2, d3] }
  | _ => none }
def tokenCardsRow : OpenClaim := { program := "ytpmbgbahoinelaa", sum := "553513d7395f21b364e8a8b4c6a193466be5a09a2e6ef5ce3595f51c798610cf", func := "catchword/catchwordlaw05.TokenCards", spec := "tokenCards", apart := false }
def TokenCardsSaid : Prop := tokenCardsRow.holds Try.pinned (OpenSpec.ofChange tokenCardsSpec)

/-- ITS FALSE NEIGHBOUR: 'it returns false'. Refute it at one input. -/
def tokenCardsWrong : ChangeSpec := { name := "tokenCards", fn := fun _ => fun
  | [d1, d2, d3] => { results := [.lit (.bool false)], args := [d1, d2, d3] }
  | _ => none }
def TokenCardsWrongFalsely : Prop := tokenCardsRow.holds Try.pinned (OpenSpec.ofChange tokenCardsWrong)

/-- 'catchwordlaw05.TokenAgain': WHATEVER THE INPUT: true; the input reads as it did. -/
def tokenAgainSpec : ChangeSpec := { name := "tokenAgain", fn := fun _ => fun
  | [d] => { results := [.lit (.bool true)], args := [d] }
  | _ => none }
def tokenAgainRow : OpenClaim := { program := "ytpmbgbahoinelaa", sum := "553513d7395f21b364e8a8b4c6a193466be5a09a2e6ef5ce3595f51c798610cf", func := "catchword/catchwordlaw05.TokenAgain", spec := "tokenAgain", apart := false }
def TokenAgainSaid : Prop := tokenAgainRow.holds Try.pinned (OpenSpec.ofChange tokenAgainSpec)

/-- ITS FALSE NEIGHBOUR: 'it returns false'. Refute it at one input. -/
def tokenAgainWrong : ChangeSpec := { name := "tokenAgain", fn := fun _ => fun
  | [d] => { results := [.lit (.bool false)], args := [d] }
  | _ => none }
def TokenAgainWrongFalsely : Prop := tokenAgainRow.holds Try.pinned (OpenSpec.ofChange tokenAgainWrong)

/-- 'catchwordlaw05.TokenJoins': WHATEVER THE INPUT: true; the input reads as it did. -/
def tokenJoinsSpec : ChangeSpec := { name := "tokenJoins", fn := fun _ => fun
  | [d1, d2] => { results := [.lit (.bool true)], args := [d1, d2] }
  | _ => none }
def tokenJoinsRow : OpenClaim := { program := "ytpmbgbahoinelaa", sum := "553513d7395f21b364e8a8b4c6a193466be5a09a2e6ef5ce3595f51c798610cf", func := "catchword/catchwordlaw05.TokenJoins", spec := "tokenJoins", apart := false }
def TokenJoinsSaid : Prop := tokenJoinsRow.holds Try.pinned (OpenSpec.ofChange tokenJoinsSpec)

/-- ITS FALSE NEIGHBOUR: 'it returns false'. Refute it at one input. -/
def tokenJoinsWrong : ChangeSpec := { name := "tokenJoins", fn := fun _ => fun
  | [d1, d2] => { results := [.lit (.bool false)], args := [d1, d2] }
  | _ => none }
def TokenJoinsWrongFalsely : Prop := tokenJoinsRow.holds Try.pinned (OpenSpec.ofChange tokenJoinsWrong)

/-- 'catchwordlaw05.TokenCase': WHATEVER THE INPUT: true; the input reads as it did. -/
def tokenCaseSpec : ChangeSpec := { name := "tokenCase", fn := fun _ => fun
  | [d] => { results := [.lit (.bool true)], args := [d] }
  | _ => none }
def tokenCaseRow : OpenClaim := { program := "ytpmbgbahoinelaa", sum := "553513d7395f21b364e8a8b4c6a193466be5a09a2e6ef5ce3595f51c798610cf", func := "catchword/catchwordlaw05.TokenCase", spec := "tokenCase", apart := false }
def TokenCaseSaid : Prop := tokenCaseRow.holds Try.pinned (OpenSpec.ofChange tokenCaseSpec)

/-- ITS FALSE NEIGHBOUR: 'it returns false'. Refute it at one input. -/
def tokenCaseWrong : ChangeSpec := { name := "tokenCase", fn := fun _ => fun
  | [d] => { results := [.lit (.bool false)], args := [d] }
  | _ => none }
def TokenCaseWrongFalsely : Prop := tokenCaseRow.holds Try.pinned (OpenSpec.ofChange tokenCaseWrong)

/-- 'catchwordlaw05.TokenValid': WHATEVER THE INPUT: true; the input reads as it did. -/
def tokenValidSpec : ChangeSpec := { name := "tokenValid", fn := fun _ => fun
  | [d1, d2, d3] => { results := [.lit (.bool true)], args := [d1, d2, d3] }
  | _ => none }
def tokenValidRow : OpenClaim := { program := "ytpmbgbahoinelaa", sum := "553513d7395f21b364e8a8b4c6a193466be5a09a2e6ef5ce3595f51c798610cf", func := "catchword/catchwordlaw05.TokenValid", spec := "tokenValid", apart := false }
def TokenValidSaid : Prop := tokenValidRow.holds Try.pinned (OpenSpec.ofChange tokenValidSpec)

/-- ITS FALSE NEIGHBOUR: 'it returns false'. Refute it at one input. -/
def tokenValidWrong : ChangeSpec := { name := "tokenValid", fn := fun _ => fun
  | [d1, d2, d3] => { results := [.lit (.bool false)], args := [d1, d2, d3] }
  | _ => none }
def TokenValidWrongFalsely : Prop := tokenValidRow.holds Try.pinned (OpenSpec.ofChange tokenValidWrong)

/-- 'catchwordlaw05.TokenFew': WHATEVER THE INPUT: true; the input reads as it did. -/
def tokenFewSpec : ChangeSpec := { name := "tokenFew", fn := fun _ => fun
  | [d1, d2, d3] => { results := [.lit (.bool true)], args := [d1, d2, d3] }
  | _ => none }
def tokenFewRow : OpenClaim := { program := "ytpmbgbahoinelaa", sum := "553513d7395f21b364e8a8b4c6a193466be5a09a2e6ef5ce3595f51c798610cf", func := "catchword/catchwordlaw05.TokenFew", spec := "tokenFew", apart := false }
def TokenFewSaid : Prop := tokenFewRow.holds Try.pinned (OpenSpec.ofChange tokenFewSpec)

/-- ITS FALSE NEIGHBOUR: 'it returns false'. Refute it at one input. -/
def tokenFewWrong : ChangeSpec := { name := "tokenFew", fn := fun _ => fun
  | [d1, d2, d3] => { results := [.lit (.bool false)], args := [d1, d2, d3] }
  | _ => none }
def TokenFewWrongFalsely : Prop := tokenFewRow.holds Try.pinned (OpenSpec.ofChange tokenFewWrong)

/- THE SECOND FORM. 'bulk': how many values and letters a reading holds, each counted each time it is reached (what is shared counts as often as it is met; a slice's spare places count too). A statement '..UptoSaid' is the law's where the arguments, and the package variables that the reading takes, are together of bulk at most 1048576: NARROWER than '..Said'. Prove '..Said' where nothing that the law and all that it calls make is longer than what came in: it says more and counts as full. Else prove '..UptoSaid'. A law counts once. -/
mutual
def uptoBulk {H : Type} : DataW H → Nat
  | .lit (.string bytes) => bytes.length + 1
  | .lit _ => 1
  | .nil => 1
  | .ptr d => uptoBulk d + 1
  | .slice elems spare => uptoBulkAll elems + uptoBulkAll spare + 1
  | .agg parts => uptoBulkAll parts + 1
  | .iface _ d => uptoBulk d + 1
  | .map entries => uptoBulkEntries entries + 1
  | .held _ => 1
def uptoBulkAll {H : Type} : List (DataW H) → Nat
  | [] => 0
  | d :: r => uptoBulk d + uptoBulkAll r
def uptoBulkEntries {H : Type} : List (Lit × DataW H) → Nat
  | [] => 0
  | x :: r => uptoBulkEntry x + uptoBulkEntries r
def uptoBulkEntry {H : Type} : Lit × DataW H → Nat
  | (.string bytes, d) => bytes.length + uptoBulk d + 1
  | (_, d) => uptoBulk d + 1
 end
def uptoSmall : (H : Type) → List (DataW H) → Bool := fun _ ds => decide (uptoBulkAll ds ≤ 1048576)
def OpenSpec.upto (s : _root_.Go.ChangeSpec) : _root_.Go.OpenSpec := { _root_.Go.OpenSpec.ofChange s with cond := some uptoSmall }

/-- 'catchwordlaw05.TokenTells', WHERE WHAT IT READS IS OF BULK AT MOST 1048576: true; the input reads as it did. -/
def tokenTellsUptoRow : OpenClaim := { program := "ytpmbgbahoinelaa", sum := "553513d7395f21b364e8a8b4c6a193466be5a09a2e6ef5ce3595f51c798610cf", func := "catchword/catchwordlaw05.TokenTells", spec := "tokenTells", apart := false, narrowed := true }
def TokenTellsUptoSaid : Prop := tokenTellsUptoRow.holds Try.pinned (OpenSpec.upto tokenTellsSpec)

/-- 'catchwordlaw05.TokenCards', WHERE WHAT IT READS IS OF BULK AT MOST 1048576: true; the input reads as it did. -/
def tokenCardsUptoRow : OpenClaim := { program := "ytpmbgbahoinelaa", sum := "553513d7395f21b364e8a8b4c6a193466be5a09a2e6ef5ce3595f51c798610cf", func := "catchword/catchwordlaw05.TokenCards", spec := "tokenCards", apart := false, narrowed := true }
def TokenCardsUptoSaid : Prop := tokenCardsUptoRow.holds Try.pinned (OpenSpec.upto tokenCardsSpec)

/-- 'catchwordlaw05.TokenAgain', WHERE WHAT IT READS IS OF BULK AT MOST 1048576: true; the input reads as it did. -/
def tokenAgainUptoRow : OpenClaim := { program := "ytpmbgbahoinelaa", sum := "553513d7395f21b364e8a8b4c6a193466be5a09a2e6ef5ce3595f51c798610cf", func := "catchword/catchwordlaw05.TokenAgain", spec := "tokenAgain", apart := false, narrowed := true }
def TokenAgainUptoSaid : Prop := tokenAgainUptoRow.holds Try.pinned (OpenSpec.upto tokenAgainSpec)

/-- 'catchwordlaw05.TokenJoins', WHERE WHAT IT READS IS OF BULK AT MOST 1048576: true; the input reads as it did. -/
def tokenJoinsUptoRow : OpenClaim := { program := "ytpmbgbahoinelaa", sum := "553513d7395f21b364e8a8b4c6a193466be5a09a2e6ef5ce3595f51c798610cf", func := "catchword/catchwordlaw05.TokenJoins", spec := "tokenJoins", apart := false, narrowed := true }
def TokenJoinsUptoSaid : Prop := tokenJoinsUptoRow.holds Try.pinned (OpenSpec.upto tokenJoinsSpec)

/-- 'catchwordlaw05.TokenCase', WHERE WHAT IT READS IS OF BULK AT MOST 1048576: true; the input reads as it did. -/
def tokenCaseUptoRow : OpenClaim := { program := "ytpmbgbahoinelaa", sum := "553513d7395f21b364e8a8b4c6a193466be5a09a2e6ef5ce3595f51c798610cf", func := "catchword/catchwordlaw05.TokenCase", spec := "tokenCase", apart := false, narrowed := true }
def TokenCaseUptoSaid : Prop := tokenCaseUptoRow.holds Try.pinned (OpenSpec.upto tokenCaseSpec)

/-- 'catchwordlaw05.TokenValid', WHERE WHAT IT READS IS OF BULK AT MOST 1048576: true; the input reads as it did. -/
def tokenValidUptoRow : OpenClaim := { program := "ytpmbgbahoinelaa", sum := "553513d7395f21b364e8a8b4c6a193466be5a09a2e6ef5ce3595f51c798610cf", func := "catchword/catchwordlaw05.TokenValid", spec := "tokenValid", apart := false, narrowed := true }
def TokenValidUptoSaid : Prop := tokenValidUptoRow.holds Try.pinned (OpenSpec.upto tokenValidSpec)

/-- 'catchwordlaw05.TokenFew', WHERE WHAT IT READS IS OF BULK AT MOST 1048576: true; the input reads as it did. -/
def tokenFewUptoRow : OpenClaim := { program := "ytpmbgbahoinelaa", sum := "553513d7395f21b364e8a8b4c6a193466be5a09a2e6ef5ce3595f51c798610cf", func := "catchword/catchwordlaw05.TokenFew", spec := "tokenFew", apart := false, narrowed := true }
def TokenFewUptoSaid : Prop := tokenFewUptoRow.holds Try.pinned (OpenSpec.upto tokenFewSpec)

end Rows
end Go.Proofs.Ytpmbgbahoinelaa
