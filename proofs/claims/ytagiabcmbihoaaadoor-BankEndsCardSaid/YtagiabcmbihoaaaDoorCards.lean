/-
  DERIVED. GIVEN WITH THE SEED: THE CARDS: each row of YtagiabcmbihoaaaDoorRows.lean that lists a variable, with what it lists TIED to the program's text (the seventh form; the later family's looks); each row that meets fmt, with fmt's text TOLD by the authors' own Lean function (tested against real Go, not proved from fmt's source: count such statements apart). THE CARD IS WHAT COUNTS. Prove the row's statement (the work); the ties are given (YtagiabcmbihoaaaDoorTie.lean); close each card by the builder's one call (the guide's Derived/Test/ToyasCard.lean, 'card_holds'). Laid BY PROGRAM, IN A SANDBOX (cutbox-door.mjs). By AI agents, Wed Nov 11 2026. No macro, syntax, notation, axiom, sorry.
-/
import Derived.Test.YtagiabcmbihoaaaDoorRows
import GoSem.ClaimSeven
namespace Go.Proofs.YtagiabcmbihoaaaDoor
namespace Rows

/-- THE TIED CARD OF 'turnkeylaw18.BankEnds'. -/
def bankEndsCard : Claim7 := { stood := { row := bankEndsRow, standIns := [], harness := (true, "3c85752c35ebc9fe4e5a3d333cb025d3282e847a50ab225dc01256668905aa07"), looks := true }, kinds := [], alts := [], laidByText := true, laidKinds := [.sentinel, .sentinel, .sentinel, .sentinel, .sentinel, .sentinel, .sentinel, .sentinel, .sentinel, .sentinel, .sentinel, .sentinel], laidTests := true, laidLooks := .later }
def BankEndsCardSaid : Prop := Claim7.holds Tryd.pinned (.plain (OpenSpec.ofChange bankEndsSpec)) bankEndsCard

/-- THE SECOND FORM's CARD OF 'turnkeylaw18.BankEnds'. -/
def bankEndsUptoCard : Claim7 := { stood := { row := bankEndsUptoRow, standIns := [], harness := (true, "3c85752c35ebc9fe4e5a3d333cb025d3282e847a50ab225dc01256668905aa07"), looks := true }, kinds := [], alts := [], laidByText := true, laidKinds := [.sentinel, .sentinel, .sentinel, .sentinel, .sentinel, .sentinel, .sentinel, .sentinel, .sentinel, .sentinel, .sentinel, .sentinel], laidTests := true, laidLooks := .later }
def BankEndsUptoCardSaid : Prop := Claim7.holds Tryd.pinned (.plain (OpenSpec.upto bankEndsSpec)) bankEndsUptoCard
end Rows
end Go.Proofs.YtagiabcmbihoaaaDoor
