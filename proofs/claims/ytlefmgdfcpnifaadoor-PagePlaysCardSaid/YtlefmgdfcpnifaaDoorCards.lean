/-
  DERIVED. GIVEN WITH THE SEED: THE CARDS: each row of YtlefmgdfcpnifaaDoorRows.lean that lists a variable, with what it lists TIED to the program's text (the seventh form; the later family's looks); each row that meets fmt, with fmt's text TOLD by the authors' own Lean function (tested against real Go, not proved from fmt's source: count such statements apart). THE CARD IS WHAT COUNTS. Prove the row's statement (the work); the ties are given (YtlefmgdfcpnifaaDoorTie.lean); close each card by the builder's one call (the guide's Derived/Test/ToyasCard.lean, 'card_holds'). Laid BY PROGRAM, IN A SANDBOX (cutbox-door.mjs). By AI agents, Wed Nov 11 2026. No macro, syntax, notation, axiom, sorry.
-/
import Derived.Test.YtlefmgdfcpnifaaDoorRows
import GoSem.ClaimSeven
namespace Go.Proofs.YtlefmgdfcpnifaaDoor
namespace Rows

/-- THE TIED CARD OF 'turnkeylaw4.ArenaPlays'. -/
def arenaPlaysCard : Claim7 := { stood := { row := arenaPlaysRow, standIns := [], harness := (true, "5217df8eb12922c918044795a31843d21014e65fac991c4f9fc9081e07a1f2b7"), looks := true }, kinds := [], alts := [], laidByText := true, laidKinds := [.sentinel, .sentinel, .sentinel, .sentinel, .sentinel, .sentinel, .sentinel, .sentinel, .sentinel, .sentinel, .sentinel, .sentinel], laidTests := true, laidLooks := .later }
def ArenaPlaysCardSaid : Prop := Claim7.holds Tryd.pinned (.plain (OpenSpec.ofChange arenaPlaysSpec)) arenaPlaysCard

/-- THE TIED CARD OF 'turnkeylaw4.ArenaVersions'. -/
def arenaVersionsCard : Claim7 := { stood := { row := arenaVersionsRow, standIns := [], harness := (true, "5217df8eb12922c918044795a31843d21014e65fac991c4f9fc9081e07a1f2b7"), looks := true }, kinds := [], alts := [], laidByText := true, laidKinds := [.sentinel, .sentinel, .sentinel], laidTests := true, laidLooks := .later }
def ArenaVersionsCardSaid : Prop := Claim7.holds Tryd.pinned (.plain (OpenSpec.ofChange arenaVersionsSpec)) arenaVersionsCard

/-- THE TIED CARD OF 'turnkeylaw4.ArenaLeast'. -/
def arenaLeastCard : Claim7 := { stood := { row := arenaLeastRow, standIns := [], harness := (true, "5217df8eb12922c918044795a31843d21014e65fac991c4f9fc9081e07a1f2b7"), looks := true }, kinds := [], alts := [], laidByText := true, laidKinds := [.sentinel, .sentinel, .sentinel], laidTests := true, laidLooks := .later }
def ArenaLeastCardSaid : Prop := Claim7.holds Tryd.pinned (.plain (OpenSpec.ofChange arenaLeastSpec)) arenaLeastCard

/-- THE TIED CARD OF 'turnkeylaw5.PagePlays'. -/
def pagePlaysCard : Claim7 := { stood := { row := pagePlaysRow, standIns := [], harness := (true, "5217df8eb12922c918044795a31843d21014e65fac991c4f9fc9081e07a1f2b7"), looks := true }, kinds := [], alts := [], laidByText := true, laidKinds := [.sentinel, .sentinel, .sentinel, .sentinel, .sentinel, .sentinel, .sentinel, .sentinel, .sentinel, .sentinel, .sentinel, .sentinel], laidTests := true, laidLooks := .later }
def PagePlaysCardSaid : Prop := Claim7.holds Tryd.pinned (.plain (OpenSpec.ofChange pagePlaysSpec)) pagePlaysCard

/-- THE TIED CARD OF 'turnkeylaw5.PageApart'. -/
def pageApartCard : Claim7 := { stood := { row := pageApartRow, standIns := [], harness := (true, "5217df8eb12922c918044795a31843d21014e65fac991c4f9fc9081e07a1f2b7"), looks := true }, kinds := [], alts := [], laidByText := true, laidKinds := [.sentinel, .sentinel, .sentinel], laidTests := true, laidLooks := .later }
def PageApartCardSaid : Prop := Claim7.holds Tryd.pinned (.plain (OpenSpec.ofChange pageApartSpec)) pageApartCard

/-- THE TIED CARD OF 'turnkeylaw5.PageFresh'. -/
def pageFreshCard : Claim7 := { stood := { row := pageFreshRow, standIns := [], harness := (true, "5217df8eb12922c918044795a31843d21014e65fac991c4f9fc9081e07a1f2b7"), looks := true }, kinds := [], alts := [], laidByText := true, laidKinds := [.sentinel, .sentinel, .sentinel, .sentinel, .sentinel, .sentinel, .sentinel, .sentinel, .sentinel, .sentinel, .sentinel, .sentinel], laidTests := true, laidLooks := .later }
def PageFreshCardSaid : Prop := Claim7.holds Tryd.pinned (.plain (OpenSpec.ofChange pageFreshSpec)) pageFreshCard

/-- THE TIED CARD OF 'turnkeylaw6.NodePlays'. -/
def nodePlaysCard : Claim7 := { stood := { row := nodePlaysRow, standIns := [], harness := (true, "5217df8eb12922c918044795a31843d21014e65fac991c4f9fc9081e07a1f2b7"), looks := true }, kinds := [], alts := [], laidByText := true, laidKinds := [.sentinel, .sentinel, .sentinel, .sentinel, .sentinel, .sentinel, .sentinel, .sentinel, .sentinel, .sentinel, .sentinel, .sentinel], laidTests := true, laidLooks := .later }
def NodePlaysCardSaid : Prop := Claim7.holds Tryd.pinned (.plain (OpenSpec.ofChange nodePlaysSpec)) nodePlaysCard

/-- THE TIED CARD OF 'turnkeylaw6.NodeApart'. -/
def nodeApartCard : Claim7 := { stood := { row := nodeApartRow, standIns := [], harness := (true, "5217df8eb12922c918044795a31843d21014e65fac991c4f9fc9081e07a1f2b7"), looks := true }, kinds := [], alts := [], laidByText := true, laidKinds := [.sentinel, .sentinel, .sentinel, .sentinel, .sentinel], laidTests := true, laidLooks := .later }
def NodeApartCardSaid : Prop := Claim7.holds Tryd.pinned (.plain (OpenSpec.ofChange nodeApartSpec)) nodeApartCard

/-- THE TIED CARD OF 'turnkeylaw6.NodeBounds'. -/
def nodeBoundsCard : Claim7 := { stood := { row := nodeBoundsRow, standIns := [], harness := (true, "5217df8eb12922c918044795a31843d21014e65fac991c4f9fc9081e07a1f2b7"), looks := true }, kinds := [], alts := [], laidByText := true, laidKinds := [.sentinel, .sentinel, .sentinel, .sentinel, .sentinel, .sentinel, .sentinel, .sentinel, .sentinel, .sentinel, .sentinel, .sentinel], laidTests := true, laidLooks := .later }
def NodeBoundsCardSaid : Prop := Claim7.holds Tryd.pinned (.plain (OpenSpec.ofChange nodeBoundsSpec)) nodeBoundsCard

/-- THE TIED CARD OF 'turnkeylaw12.MeterCharges'. -/
def meterChargesCard : Claim7 := { stood := { row := meterChargesRow, standIns := [], harness := (true, "5217df8eb12922c918044795a31843d21014e65fac991c4f9fc9081e07a1f2b7"), looks := true }, kinds := [], alts := [], laidByText := true, laidKinds := [.sentinel, .sentinel, .sentinel, .sentinel], laidTests := true, laidLooks := .later }
def MeterChargesCardSaid : Prop := Claim7.holds Tryd.pinned (.plain (OpenSpec.ofChange meterChargesSpec)) meterChargesCard

/-- THE TIED CARD OF 'turnkeylaw12.MeterEnds'. -/
def meterEndsCard : Claim7 := { stood := { row := meterEndsRow, standIns := [], harness := (true, "5217df8eb12922c918044795a31843d21014e65fac991c4f9fc9081e07a1f2b7"), looks := true }, kinds := [], alts := [], laidByText := true, laidKinds := [.sentinel, .sentinel, .sentinel, .sentinel, .sentinel, .sentinel, .sentinel, .sentinel, .sentinel, .sentinel, .sentinel, .sentinel], laidTests := true, laidLooks := .later }
def MeterEndsCardSaid : Prop := Claim7.holds Tryd.pinned (.plain (OpenSpec.ofChange meterEndsSpec)) meterEndsCard

/-- THE SECOND FORM's CARD OF 'turnkeylaw4.ArenaPlays'. -/
def arenaPlaysUptoCard : Claim7 := { stood := { row := arenaPlaysUptoRow, standIns := [], harness := (true, "5217df8eb12922c918044795a31843d21014e65fac991c4f9fc9081e07a1f2b7"), looks := true }, kinds := [], alts := [], laidByText := true, laidKinds := [.sentinel, .sentinel, .sentinel, .sentinel, .sentinel, .sentinel, .sentinel, .sentinel, .sentinel, .sentinel, .sentinel, .sentinel], laidTests := true, laidLooks := .later }
def ArenaPlaysUptoCardSaid : Prop := Claim7.holds Tryd.pinned (.plain (OpenSpec.upto arenaPlaysSpec)) arenaPlaysUptoCard

/-- THE SECOND FORM's CARD OF 'turnkeylaw4.ArenaVersions'. -/
def arenaVersionsUptoCard : Claim7 := { stood := { row := arenaVersionsUptoRow, standIns := [], harness := (true, "5217df8eb12922c918044795a31843d21014e65fac991c4f9fc9081e07a1f2b7"), looks := true }, kinds := [], alts := [], laidByText := true, laidKinds := [.sentinel, .sentinel, .sentinel], laidTests := true, laidLooks := .later }
def ArenaVersionsUptoCardSaid : Prop := Claim7.holds Tryd.pinned (.plain (OpenSpec.upto arenaVersionsSpec)) arenaVersionsUptoCard

/-- THE SECOND FORM's CARD OF 'turnkeylaw4.ArenaLeast'. -/
def arenaLeastUptoCard : Claim7 := { stood := { row := arenaLeastUptoRow, standIns := [], harness := (true, "5217df8eb12922c918044795a31843d21014e65fac991c4f9fc9081e07a1f2b7"), looks := true }, kinds := [], alts := [], laidByText := true, laidKinds := [.sentinel, .sentinel, .sentinel], laidTests := true, laidLooks := .later }
def ArenaLeastUptoCardSaid : Prop := Claim7.holds Tryd.pinned (.plain (OpenSpec.upto arenaLeastSpec)) arenaLeastUptoCard

/-- THE SECOND FORM's CARD OF 'turnkeylaw5.PagePlays'. -/
def pagePlaysUptoCard : Claim7 := { stood := { row := pagePlaysUptoRow, standIns := [], harness := (true, "5217df8eb12922c918044795a31843d21014e65fac991c4f9fc9081e07a1f2b7"), looks := true }, kinds := [], alts := [], laidByText := true, laidKinds := [.sentinel, .sentinel, .sentinel, .sentinel, .sentinel, .sentinel, .sentinel, .sentinel, .sentinel, .sentinel, .sentinel, .sentinel], laidTests := true, laidLooks := .later }
def PagePlaysUptoCardSaid : Prop := Claim7.holds Tryd.pinned (.plain (OpenSpec.upto pagePlaysSpec)) pagePlaysUptoCard

/-- THE SECOND FORM's CARD OF 'turnkeylaw5.PageApart'. -/
def pageApartUptoCard : Claim7 := { stood := { row := pageApartUptoRow, standIns := [], harness := (true, "5217df8eb12922c918044795a31843d21014e65fac991c4f9fc9081e07a1f2b7"), looks := true }, kinds := [], alts := [], laidByText := true, laidKinds := [.sentinel, .sentinel, .sentinel], laidTests := true, laidLooks := .later }
def PageApartUptoCardSaid : Prop := Claim7.holds Tryd.pinned (.plain (OpenSpec.upto pageApartSpec)) pageApartUptoCard

/-- THE SECOND FORM's CARD OF 'turnkeylaw5.PageFresh'. -/
def pageFreshUptoCard : Claim7 := { stood := { row := pageFreshUptoRow, standIns := [], harness := (true, "5217df8eb12922c918044795a31843d21014e65fac991c4f9fc9081e07a1f2b7"), looks := true }, kinds := [], alts := [], laidByText := true, laidKinds := [.sentinel, .sentinel, .sentinel, .sentinel, .sentinel, .sentinel, .sentinel, .sentinel, .sentinel, .sentinel, .sentinel, .sentinel], laidTests := true, laidLooks := .later }
def PageFreshUptoCardSaid : Prop := Claim7.holds Tryd.pinned (.plain (OpenSpec.upto pageFreshSpec)) pageFreshUptoCard

/-- THE SECOND FORM's CARD OF 'turnkeylaw6.NodePlays'. -/
def nodePlaysUptoCard : Claim7 := { stood := { row := nodePlaysUptoRow, standIns := [], harness := (true, "5217df8eb12922c918044795a31843d21014e65fac991c4f9fc9081e07a1f2b7"), looks := true }, kinds := [], alts := [], laidByText := true, laidKinds := [.sentinel, .sentinel, .sentinel, .sentinel, .sentinel, .sentinel, .sentinel, .sentinel, .sentinel, .sentinel, .sentinel, .sentinel], laidTests := true, laidLooks := .later }
def NodePlaysUptoCardSaid : Prop := Claim7.holds Tryd.pinned (.plain (OpenSpec.upto nodePlaysSpec)) nodePlaysUptoCard

/-- THE SECOND FORM's CARD OF 'turnkeylaw6.NodeApart'. -/
def nodeApartUptoCard : Claim7 := { stood := { row := nodeApartUptoRow, standIns := [], harness := (true, "5217df8eb12922c918044795a31843d21014e65fac991c4f9fc9081e07a1f2b7"), looks := true }, kinds := [], alts := [], laidByText := true, laidKinds := [.sentinel, .sentinel, .sentinel, .sentinel, .sentinel], laidTests := true, laidLooks := .later }
def NodeApartUptoCardSaid : Prop := Claim7.holds Tryd.pinned (.plain (OpenSpec.upto nodeApartSpec)) nodeApartUptoCard

/-- THE SECOND FORM's CARD OF 'turnkeylaw6.NodeBounds'. -/
def nodeBoundsUptoCard : Claim7 := { stood := { row := nodeBoundsUptoRow, standIns := [], harness := (true, "5217df8eb12922c918044795a31843d21014e65fac991c4f9fc9081e07a1f2b7"), looks := true }, kinds := [], alts := [], laidByText := true, laidKinds := [.sentinel, .sentinel, .sentinel, .sentinel, .sentinel, .sentinel, .sentinel, .sentinel, .sentinel, .sentinel, .sentinel, .sentinel], laidTests := true, laidLooks := .later }
def NodeBoundsUptoCardSaid : Prop := Claim7.holds Tryd.pinned (.plain (OpenSpec.upto nodeBoundsSpec)) nodeBoundsUptoCard

/-- THE SECOND FORM's CARD OF 'turnkeylaw12.MeterCharges'. -/
def meterChargesUptoCard : Claim7 := { stood := { row := meterChargesUptoRow, standIns := [], harness := (true, "5217df8eb12922c918044795a31843d21014e65fac991c4f9fc9081e07a1f2b7"), looks := true }, kinds := [], alts := [], laidByText := true, laidKinds := [.sentinel, .sentinel, .sentinel, .sentinel], laidTests := true, laidLooks := .later }
def MeterChargesUptoCardSaid : Prop := Claim7.holds Tryd.pinned (.plain (OpenSpec.upto meterChargesSpec)) meterChargesUptoCard

/-- THE SECOND FORM's CARD OF 'turnkeylaw12.MeterEnds'. -/
def meterEndsUptoCard : Claim7 := { stood := { row := meterEndsUptoRow, standIns := [], harness := (true, "5217df8eb12922c918044795a31843d21014e65fac991c4f9fc9081e07a1f2b7"), looks := true }, kinds := [], alts := [], laidByText := true, laidKinds := [.sentinel, .sentinel, .sentinel, .sentinel, .sentinel, .sentinel, .sentinel, .sentinel, .sentinel, .sentinel, .sentinel, .sentinel], laidTests := true, laidLooks := .later }
def MeterEndsUptoCardSaid : Prop := Claim7.holds Tryd.pinned (.plain (OpenSpec.upto meterEndsSpec)) meterEndsUptoCard
end Rows
end Go.Proofs.YtlefmgdfcpnifaaDoor
