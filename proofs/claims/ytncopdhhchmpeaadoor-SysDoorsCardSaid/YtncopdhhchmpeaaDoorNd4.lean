/-
  package node: Set, All.
-/
import Derived.Test.YtncopdhhchmpeaaDoorNdB
import Derived.StillTailTactics
namespace Go.Proofs.YtncopdhhchmpeaaDoor
open Go.ChangeShapes Go.WideShapes Go.ChangeAt Go.RowKit
set_option linter.unusedVariables false
/-- A node's cells. -/
def ndc (f : Nat → Value) : List Value := (List.range 80).map f
theorem ndc_len (f : Nat → Value) : (ndc f).length = 80 := by simp [ndc]
end Go.Proofs.YtncopdhhchmpeaaDoor
