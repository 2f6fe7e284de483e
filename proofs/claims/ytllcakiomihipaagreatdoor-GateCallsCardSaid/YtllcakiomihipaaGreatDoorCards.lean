/-
  DERIVED. GIVEN WITH THE SEED: THE CARDS: each row of YtllcakiomihipaaGreatDoorRows.lean that lists a variable, with what it lists TIED to the program's text (the seventh form; the later family's looks); each row that meets fmt, with fmt's text TOLD by the authors' own Lean function (tested against real Go, not proved from fmt's source: count such statements apart). THE CARD IS WHAT COUNTS. Prove the row's statement (the work); the ties are given (YtllcakiomihipaaGreatDoorTie.lean); close each card by the builder's one call (the guide's Derived/Test/ToyasCard.lean, 'card_holds'). Laid BY PROGRAM, IN A SANDBOX (cutbox-door.mjs). By AI agents, Wed Nov 11 2026. No macro, syntax, notation, axiom, sorry.
-/
import Derived.Test.YtllcakiomihipaaGreatDoorRows
import GoSem.ClaimSeven
namespace Go.Proofs.YtllcakiomihipaaGreatDoor
namespace Rows

/-- THE TIED CARD OF 'turnkeylaw23.GateStates'. -/
def gateStatesCard : Claim7 := { stood := { row := gateStatesRow, standIns := [], harness := (true, "bf9e7598dfb0e6db22d1f168cb67cb793bf0b4f3bca329eec0bbbf8be5f40995"), looks := true }, kinds := [], alts := [], laidByText := true, laidKinds := [.sentinel, .sentinel, .sentinel, .sentinel, .sentinel, .sentinel, .sentinel, .sentinel, .sentinel, .sentinel, .sentinel, .sentinel], laidTests := true, laidLooks := .later }
def GateStatesCardSaid : Prop := Claim7.holds Tryz.pinned (.plain (OpenSpec.ofChange gateStatesSpec)) gateStatesCard

/-- THE TIED CARD OF 'turnkeylaw23.GateForks'. -/
def gateForksCard : Claim7 := { stood := { row := gateForksRow, standIns := [], harness := (true, "bf9e7598dfb0e6db22d1f168cb67cb793bf0b4f3bca329eec0bbbf8be5f40995"), looks := true }, kinds := [], alts := [], laidByText := true, laidKinds := [.sentinel, .sentinel, .sentinel, .sentinel, .sentinel, .sentinel, .sentinel, .sentinel, .sentinel], laidTests := true, laidLooks := .later }
def GateForksCardSaid : Prop := Claim7.holds Tryz.pinned (.plain (OpenSpec.ofChange gateForksSpec)) gateForksCard

/-- THE TIED CARD OF 'turnkeylaw23.GateCalls'. -/
def gateCallsCard : Claim7 := { stood := { row := gateCallsRow, standIns := [], harness := (true, "bf9e7598dfb0e6db22d1f168cb67cb793bf0b4f3bca329eec0bbbf8be5f40995"), looks := true }, kinds := [], alts := [], laidByText := true, laidKinds := [.sentinel, .sentinel, .sentinel, .sentinel, .sentinel, .sentinel, .sentinel, .sentinel, .sentinel], laidTests := true, laidLooks := .later }
def GateCallsCardSaid : Prop := Claim7.holds Tryz.pinned (.plain (OpenSpec.ofChange gateCallsSpec)) gateCallsCard

/-- THE TIED CARD OF 'turnkeylaw23.GateFaults'. -/
def gateFaultsCard : Claim7 := { stood := { row := gateFaultsRow, standIns := [], harness := (true, "bf9e7598dfb0e6db22d1f168cb67cb793bf0b4f3bca329eec0bbbf8be5f40995"), looks := true }, kinds := [], alts := [], laidByText := true, laidKinds := [.sentinel, .sentinel, .sentinel, .sentinel, .sentinel, .sentinel, .sentinel, .sentinel, .sentinel], laidTests := true, laidLooks := .later }
def GateFaultsCardSaid : Prop := Claim7.holds Tryz.pinned (.plain (OpenSpec.ofChange gateFaultsSpec)) gateFaultsCard

/-- THE SECOND FORM's CARD OF 'turnkeylaw23.GateStates'. -/
def gateStatesUptoCard : Claim7 := { stood := { row := gateStatesUptoRow, standIns := [], harness := (true, "bf9e7598dfb0e6db22d1f168cb67cb793bf0b4f3bca329eec0bbbf8be5f40995"), looks := true }, kinds := [], alts := [], laidByText := true, laidKinds := [.sentinel, .sentinel, .sentinel, .sentinel, .sentinel, .sentinel, .sentinel, .sentinel, .sentinel, .sentinel, .sentinel, .sentinel], laidTests := true, laidLooks := .later }
def GateStatesUptoCardSaid : Prop := Claim7.holds Tryz.pinned (.plain (OpenSpec.upto gateStatesSpec)) gateStatesUptoCard

/-- THE SECOND FORM's CARD OF 'turnkeylaw23.GateForks'. -/
def gateForksUptoCard : Claim7 := { stood := { row := gateForksUptoRow, standIns := [], harness := (true, "bf9e7598dfb0e6db22d1f168cb67cb793bf0b4f3bca329eec0bbbf8be5f40995"), looks := true }, kinds := [], alts := [], laidByText := true, laidKinds := [.sentinel, .sentinel, .sentinel, .sentinel, .sentinel, .sentinel, .sentinel, .sentinel, .sentinel], laidTests := true, laidLooks := .later }
def GateForksUptoCardSaid : Prop := Claim7.holds Tryz.pinned (.plain (OpenSpec.upto gateForksSpec)) gateForksUptoCard

/-- THE SECOND FORM's CARD OF 'turnkeylaw23.GateCalls'. -/
def gateCallsUptoCard : Claim7 := { stood := { row := gateCallsUptoRow, standIns := [], harness := (true, "bf9e7598dfb0e6db22d1f168cb67cb793bf0b4f3bca329eec0bbbf8be5f40995"), looks := true }, kinds := [], alts := [], laidByText := true, laidKinds := [.sentinel, .sentinel, .sentinel, .sentinel, .sentinel, .sentinel, .sentinel, .sentinel, .sentinel], laidTests := true, laidLooks := .later }
def GateCallsUptoCardSaid : Prop := Claim7.holds Tryz.pinned (.plain (OpenSpec.upto gateCallsSpec)) gateCallsUptoCard

/-- THE SECOND FORM's CARD OF 'turnkeylaw23.GateFaults'. -/
def gateFaultsUptoCard : Claim7 := { stood := { row := gateFaultsUptoRow, standIns := [], harness := (true, "bf9e7598dfb0e6db22d1f168cb67cb793bf0b4f3bca329eec0bbbf8be5f40995"), looks := true }, kinds := [], alts := [], laidByText := true, laidKinds := [.sentinel, .sentinel, .sentinel, .sentinel, .sentinel, .sentinel, .sentinel, .sentinel, .sentinel], laidTests := true, laidLooks := .later }
def GateFaultsUptoCardSaid : Prop := Claim7.holds Tryz.pinned (.plain (OpenSpec.upto gateFaultsSpec)) gateFaultsUptoCard
end Rows
end Go.Proofs.YtllcakiomihipaaGreatDoor
