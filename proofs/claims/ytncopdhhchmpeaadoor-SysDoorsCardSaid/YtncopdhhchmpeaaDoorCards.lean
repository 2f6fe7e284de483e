/-
  DERIVED. GIVEN WITH THE SEED: THE CARDS: each row of YtncopdhhchmpeaaDoorRows.lean that lists a variable, with what it lists TIED to the program's text (the seventh form; the later family's looks); each row that meets fmt, with fmt's text TOLD by the authors' own Lean function (tested against real Go, not proved from fmt's source: count such statements apart). THE CARD IS WHAT COUNTS. Prove the row's statement (the work); the ties are given (YtncopdhhchmpeaaDoorTie.lean); close each card by the builder's one call (the guide's Derived/Test/ToyasCard.lean, 'card_holds'). Laid BY PROGRAM, IN A SANDBOX (cutbox-door.mjs). By AI agents, Wed Nov 11 2026. No macro, syntax, notation, axiom, sorry.
-/
import Derived.Test.YtncopdhhchmpeaaDoorRows
import GoSem.ClaimSeven
namespace Go.Proofs.YtncopdhhchmpeaaDoor
namespace Rows

/-- THE TIED CARD OF 'turnkeylaw21.SysSizes'. -/
def sysSizesCard : Claim7 := { stood := { row := sysSizesRow, standIns := [], harness := (true, "afbf3d8e179b73fdddd02f59a5b0ab35aa864ac6970ed3d97691625c99292c68"), looks := true }, kinds := [], alts := [], laidByText := true, laidKinds := [.sentinel, .sentinel, .sentinel, .sentinel, .sentinel, .sentinel, .sentinel, .sentinel, .sentinel, .sentinel, .sentinel, .sentinel], laidTests := true, laidLooks := .later }
def SysSizesCardSaid : Prop := Claim7.holds Tryd.pinned (.plain (OpenSpec.ofChange sysSizesSpec)) sysSizesCard

/-- THE TIED CARD OF 'turnkeylaw21.SysDoors'. -/
def sysDoorsCard : Claim7 := { stood := { row := sysDoorsRow, standIns := [], harness := (true, "afbf3d8e179b73fdddd02f59a5b0ab35aa864ac6970ed3d97691625c99292c68"), looks := true }, kinds := [], alts := [], laidByText := true, laidKinds := [.sentinel, .sentinel, .sentinel, .sentinel, .sentinel, .sentinel, .sentinel], laidTests := true, laidLooks := .later }
def SysDoorsCardSaid : Prop := Claim7.holds Tryd.pinned (.plain (OpenSpec.ofChange sysDoorsSpec)) sysDoorsCard

/-- THE SECOND FORM's CARD OF 'turnkeylaw21.SysSizes'. -/
def sysSizesUptoCard : Claim7 := { stood := { row := sysSizesUptoRow, standIns := [], harness := (true, "afbf3d8e179b73fdddd02f59a5b0ab35aa864ac6970ed3d97691625c99292c68"), looks := true }, kinds := [], alts := [], laidByText := true, laidKinds := [.sentinel, .sentinel, .sentinel, .sentinel, .sentinel, .sentinel, .sentinel, .sentinel, .sentinel, .sentinel, .sentinel, .sentinel], laidTests := true, laidLooks := .later }
def SysSizesUptoCardSaid : Prop := Claim7.holds Tryd.pinned (.plain (OpenSpec.upto sysSizesSpec)) sysSizesUptoCard

/-- THE SECOND FORM's CARD OF 'turnkeylaw21.SysDoors'. -/
def sysDoorsUptoCard : Claim7 := { stood := { row := sysDoorsUptoRow, standIns := [], harness := (true, "afbf3d8e179b73fdddd02f59a5b0ab35aa864ac6970ed3d97691625c99292c68"), looks := true }, kinds := [], alts := [], laidByText := true, laidKinds := [.sentinel, .sentinel, .sentinel, .sentinel, .sentinel, .sentinel, .sentinel], laidTests := true, laidLooks := .later }
def SysDoorsUptoCardSaid : Prop := Claim7.holds Tryd.pinned (.plain (OpenSpec.upto sysDoorsSpec)) sysDoorsUptoCard
end Rows
end Go.Proofs.YtncopdhhchmpeaaDoor
