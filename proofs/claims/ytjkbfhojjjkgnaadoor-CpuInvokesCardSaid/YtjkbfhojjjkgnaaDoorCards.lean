/-
  DERIVED. GIVEN WITH THE SEED: THE CARDS: each row of YtjkbfhojjjkgnaaDoorRows.lean that lists a variable, with what it lists TIED to the program's text (the seventh form; the later family's looks); each row that meets fmt, with fmt's text TOLD by the authors' own Lean function (tested against real Go, not proved from fmt's source: count such statements apart). THE CARD IS WHAT COUNTS. Prove the row's statement (the work); the ties are given (YtjkbfhojjjkgnaaDoorTie.lean); close each card by the builder's one call (the guide's Derived/Test/ToyasCard.lean, 'card_holds'). Laid BY PROGRAM, IN A SANDBOX (cutbox-door.mjs). By AI agents, Wed Nov 11 2026. No macro, syntax, notation, axiom, sorry.
-/
import Derived.Test.YtjkbfhojjjkgnaaDoorRows
import GoSem.ClaimSeven
namespace Go.Proofs.YtjkbfhojjjkgnaaDoor
namespace Rows

/-- THE TIED CARD OF 'turnkeylaw17.CpuTakes'. -/
def cpuTakesCard : Claim7 := { stood := { row := cpuTakesRow, standIns := [], harness := (true, "a3179da28b2bc57f834769b32430c1838a1fd55de687009b482eeefc337124fa"), looks := true }, kinds := [], alts := [], laidByText := true, laidKinds := [.sentinel, .sentinel, .sentinel, .sentinel, .sentinel, .data], laidTests := true, laidLooks := .later }
def CpuTakesCardSaid : Prop := Claim7.holds Tryd.pinned (.plain (OpenSpec.ofChange cpuTakesSpec)) cpuTakesCard

/-- THE TIED CARD OF 'turnkeylaw17.CpuSums'. -/
def cpuSumsCard : Claim7 := { stood := { row := cpuSumsRow, standIns := [], harness := (true, "a3179da28b2bc57f834769b32430c1838a1fd55de687009b482eeefc337124fa"), looks := true }, kinds := [], alts := [], laidByText := true, laidKinds := [.sentinel, .sentinel, .sentinel, .sentinel, .sentinel, .sentinel, .sentinel, .sentinel, .sentinel, .sentinel, .sentinel, .sentinel, .data], laidTests := true, laidLooks := .later }
def CpuSumsCardSaid : Prop := Claim7.holds Tryd.pinned (.plain (OpenSpec.ofChange cpuSumsSpec)) cpuSumsCard

/-- THE TIED CARD OF 'turnkeylaw17.CpuStores'. -/
def cpuStoresCard : Claim7 := { stood := { row := cpuStoresRow, standIns := [], harness := (true, "a3179da28b2bc57f834769b32430c1838a1fd55de687009b482eeefc337124fa"), looks := true }, kinds := [], alts := [], laidByText := true, laidKinds := [.sentinel, .sentinel, .sentinel, .sentinel, .sentinel, .data], laidTests := true, laidLooks := .later }
def CpuStoresCardSaid : Prop := Claim7.holds Tryd.pinned (.plain (OpenSpec.ofChange cpuStoresSpec)) cpuStoresCard

/-- THE TIED CARD OF 'turnkeylaw17.CpuKeys'. -/
def cpuKeysCard : Claim7 := { stood := { row := cpuKeysRow, standIns := [], harness := (true, "a3179da28b2bc57f834769b32430c1838a1fd55de687009b482eeefc337124fa"), looks := true }, kinds := [], alts := [], laidByText := true, laidKinds := [.sentinel, .sentinel, .sentinel, .sentinel, .sentinel, .data], laidTests := true, laidLooks := .later }
def CpuKeysCardSaid : Prop := Claim7.holds Tryd.pinned (.plain (OpenSpec.ofChange cpuKeysSpec)) cpuKeysCard

/-- THE TIED CARD OF 'turnkeylaw17.CpuInvokes'. -/
def cpuInvokesCard : Claim7 := { stood := { row := cpuInvokesRow, standIns := [], harness := (true, "a3179da28b2bc57f834769b32430c1838a1fd55de687009b482eeefc337124fa"), looks := true }, kinds := [], alts := [], laidByText := true, laidKinds := [.sentinel, .sentinel, .sentinel, .sentinel, .sentinel, .data], laidTests := true, laidLooks := .later }
def CpuInvokesCardSaid : Prop := Claim7.holds Tryd.pinned (.plain (OpenSpec.ofChange cpuInvokesSpec)) cpuInvokesCard

/-- THE TIED CARD OF 'turnkeylaw17.CpuJumps'. -/
def cpuJumpsCard : Claim7 := { stood := { row := cpuJumpsRow, standIns := [], harness := (true, "a3179da28b2bc57f834769b32430c1838a1fd55de687009b482eeefc337124fa"), looks := true }, kinds := [], alts := [], laidByText := true, laidKinds := [.sentinel, .sentinel, .sentinel, .sentinel, .sentinel, .data], laidTests := true, laidLooks := .later }
def CpuJumpsCardSaid : Prop := Claim7.holds Tryd.pinned (.plain (OpenSpec.ofChange cpuJumpsSpec)) cpuJumpsCard

/-- THE TIED CARD OF 'turnkeylaw17.CpuFaults'. -/
def cpuFaultsCard : Claim7 := { stood := { row := cpuFaultsRow, standIns := [], harness := (true, "a3179da28b2bc57f834769b32430c1838a1fd55de687009b482eeefc337124fa"), looks := true }, kinds := [], alts := [], laidByText := true, laidKinds := [.sentinel, .sentinel, .sentinel, .sentinel, .sentinel, .data], laidTests := true, laidLooks := .later }
def CpuFaultsCardSaid : Prop := Claim7.holds Tryd.pinned (.plain (OpenSpec.ofChange cpuFaultsSpec)) cpuFaultsCard

/-- THE SECOND FORM's CARD OF 'turnkeylaw17.CpuTakes'. -/
def cpuTakesUptoCard : Claim7 := { stood := { row := cpuTakesUptoRow, standIns := [], harness := (true, "a3179da28b2bc57f834769b32430c1838a1fd55de687009b482eeefc337124fa"), looks := true }, kinds := [], alts := [], laidByText := true, laidKinds := [.sentinel, .sentinel, .sentinel, .sentinel, .sentinel, .data], laidTests := true, laidLooks := .later }
def CpuTakesUptoCardSaid : Prop := Claim7.holds Tryd.pinned (.plain (OpenSpec.upto cpuTakesSpec)) cpuTakesUptoCard

/-- THE SECOND FORM's CARD OF 'turnkeylaw17.CpuSums'. -/
def cpuSumsUptoCard : Claim7 := { stood := { row := cpuSumsUptoRow, standIns := [], harness := (true, "a3179da28b2bc57f834769b32430c1838a1fd55de687009b482eeefc337124fa"), looks := true }, kinds := [], alts := [], laidByText := true, laidKinds := [.sentinel, .sentinel, .sentinel, .sentinel, .sentinel, .sentinel, .sentinel, .sentinel, .sentinel, .sentinel, .sentinel, .sentinel, .data], laidTests := true, laidLooks := .later }
def CpuSumsUptoCardSaid : Prop := Claim7.holds Tryd.pinned (.plain (OpenSpec.upto cpuSumsSpec)) cpuSumsUptoCard

/-- THE SECOND FORM's CARD OF 'turnkeylaw17.CpuStores'. -/
def cpuStoresUptoCard : Claim7 := { stood := { row := cpuStoresUptoRow, standIns := [], harness := (true, "a3179da28b2bc57f834769b32430c1838a1fd55de687009b482eeefc337124fa"), looks := true }, kinds := [], alts := [], laidByText := true, laidKinds := [.sentinel, .sentinel, .sentinel, .sentinel, .sentinel, .data], laidTests := true, laidLooks := .later }
def CpuStoresUptoCardSaid : Prop := Claim7.holds Tryd.pinned (.plain (OpenSpec.upto cpuStoresSpec)) cpuStoresUptoCard

/-- THE SECOND FORM's CARD OF 'turnkeylaw17.CpuKeys'. -/
def cpuKeysUptoCard : Claim7 := { stood := { row := cpuKeysUptoRow, standIns := [], harness := (true, "a3179da28b2bc57f834769b32430c1838a1fd55de687009b482eeefc337124fa"), looks := true }, kinds := [], alts := [], laidByText := true, laidKinds := [.sentinel, .sentinel, .sentinel, .sentinel, .sentinel, .data], laidTests := true, laidLooks := .later }
def CpuKeysUptoCardSaid : Prop := Claim7.holds Tryd.pinned (.plain (OpenSpec.upto cpuKeysSpec)) cpuKeysUptoCard

/-- THE SECOND FORM's CARD OF 'turnkeylaw17.CpuInvokes'. -/
def cpuInvokesUptoCard : Claim7 := { stood := { row := cpuInvokesUptoRow, standIns := [], harness := (true, "a3179da28b2bc57f834769b32430c1838a1fd55de687009b482eeefc337124fa"), looks := true }, kinds := [], alts := [], laidByText := true, laidKinds := [.sentinel, .sentinel, .sentinel, .sentinel, .sentinel, .data], laidTests := true, laidLooks := .later }
def CpuInvokesUptoCardSaid : Prop := Claim7.holds Tryd.pinned (.plain (OpenSpec.upto cpuInvokesSpec)) cpuInvokesUptoCard

/-- THE SECOND FORM's CARD OF 'turnkeylaw17.CpuJumps'. -/
def cpuJumpsUptoCard : Claim7 := { stood := { row := cpuJumpsUptoRow, standIns := [], harness := (true, "a3179da28b2bc57f834769b32430c1838a1fd55de687009b482eeefc337124fa"), looks := true }, kinds := [], alts := [], laidByText := true, laidKinds := [.sentinel, .sentinel, .sentinel, .sentinel, .sentinel, .data], laidTests := true, laidLooks := .later }
def CpuJumpsUptoCardSaid : Prop := Claim7.holds Tryd.pinned (.plain (OpenSpec.upto cpuJumpsSpec)) cpuJumpsUptoCard

/-- THE SECOND FORM's CARD OF 'turnkeylaw17.CpuFaults'. -/
def cpuFaultsUptoCard : Claim7 := { stood := { row := cpuFaultsUptoRow, standIns := [], harness := (true, "a3179da28b2bc57f834769b32430c1838a1fd55de687009b482eeefc337124fa"), looks := true }, kinds := [], alts := [], laidByText := true, laidKinds := [.sentinel, .sentinel, .sentinel, .sentinel, .sentinel, .data], laidTests := true, laidLooks := .later }
def CpuFaultsUptoCardSaid : Prop := Claim7.holds Tryd.pinned (.plain (OpenSpec.upto cpuFaultsSpec)) cpuFaultsUptoCard
end Rows
end Go.Proofs.YtjkbfhojjjkgnaaDoor
