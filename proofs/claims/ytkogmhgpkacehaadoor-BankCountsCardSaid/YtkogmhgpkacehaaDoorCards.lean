/-
  DERIVED. GIVEN WITH THE SEED: THE CARDS: each row of YtkogmhgpkacehaaDoorRows.lean that lists a variable, with what it lists TIED to the program's text (the seventh form; the later family's looks); each row that meets fmt, with fmt's text TOLD by the authors' own Lean function (tested against real Go, not proved from fmt's source: count such statements apart). THE CARD IS WHAT COUNTS. Prove the row's statement (the work); the ties are given (YtkogmhgpkacehaaDoorTie.lean); close each card by the builder's one call (the guide's Derived/Test/ToyasCard.lean, 'card_holds'). Laid BY PROGRAM, IN A SANDBOX (cutbox-door.mjs). By AI agents, Wed Nov 11 2026. No macro, syntax, notation, axiom, sorry.
-/
import Derived.Test.YtkogmhgpkacehaaDoorRows
import GoSem.ClaimSeven
namespace Go.Proofs.YtkogmhgpkacehaaDoor
namespace Rows

/-- THE TIED CARD OF 'turnkeylaw6.NodePlays'. -/
def nodePlaysCard : Claim7 := { stood := { row := nodePlaysRow, standIns := [], harness := (true, "8577c67d7d5e3c0d3e84c6d47565c81a29f742c54d441093e98273c40337cd5a"), looks := true }, kinds := [], alts := [], laidByText := true, laidKinds := [.sentinel, .sentinel, .sentinel, .sentinel, .sentinel, .sentinel, .sentinel, .sentinel, .sentinel, .sentinel, .sentinel, .sentinel], laidTests := true, laidLooks := .later }
def NodePlaysCardSaid : Prop := Claim7.holds Tryd.pinned (.plain (OpenSpec.ofChange nodePlaysSpec)) nodePlaysCard

/-- THE TIED CARD OF 'turnkeylaw8.StorePlays'. -/
def storePlaysCard : Claim7 := { stood := { row := storePlaysRow, standIns := [], harness := (true, "8577c67d7d5e3c0d3e84c6d47565c81a29f742c54d441093e98273c40337cd5a"), looks := true }, kinds := [], alts := [], laidByText := true, laidKinds := [.sentinel, .sentinel, .sentinel, .sentinel, .sentinel, .sentinel, .sentinel, .sentinel, .sentinel, .sentinel, .sentinel, .sentinel], laidTests := true, laidLooks := .later }
def StorePlaysCardSaid : Prop := Claim7.holds Tryd.pinned (.plain (OpenSpec.ofChange storePlaysSpec)) storePlaysCard

/-- THE TIED CARD OF 'turnkeylaw16.DomPlays'. -/
def domPlaysCard : Claim7 := { stood := { row := domPlaysRow, standIns := [], harness := (true, "8577c67d7d5e3c0d3e84c6d47565c81a29f742c54d441093e98273c40337cd5a"), looks := true }, kinds := [], alts := [], laidByText := true, laidKinds := [.sentinel, .sentinel, .sentinel, .sentinel, .sentinel, .sentinel, .sentinel, .sentinel, .sentinel, .sentinel, .sentinel, .sentinel], laidTests := true, laidLooks := .later }
def DomPlaysCardSaid : Prop := Claim7.holds Tryd.pinned (.plain (OpenSpec.ofChange domPlaysSpec)) domPlaysCard

/-- THE TIED CARD OF 'turnkeylaw16.DomStalls'. -/
def domStallsCard : Claim7 := { stood := { row := domStallsRow, standIns := [], harness := (true, "8577c67d7d5e3c0d3e84c6d47565c81a29f742c54d441093e98273c40337cd5a"), looks := true }, kinds := [], alts := [], laidByText := true, laidKinds := [.sentinel, .sentinel], laidTests := true, laidLooks := .later }
def DomStallsCardSaid : Prop := Claim7.holds Tryd.pinned (.plain (OpenSpec.ofChange domStallsSpec)) domStallsCard

/-- THE TIED CARD OF 'turnkeylaw16.DomResumes'. -/
def domResumesCard : Claim7 := { stood := { row := domResumesRow, standIns := [], harness := (true, "8577c67d7d5e3c0d3e84c6d47565c81a29f742c54d441093e98273c40337cd5a"), looks := true }, kinds := [], alts := [], laidByText := true, laidKinds := [.sentinel, .sentinel, .sentinel, .sentinel], laidTests := true, laidLooks := .later }
def DomResumesCardSaid : Prop := Claim7.holds Tryd.pinned (.plain (OpenSpec.ofChange domResumesSpec)) domResumesCard

/-- THE TIED CARD OF 'turnkeylaw18.BankCounts'. -/
def bankCountsCard : Claim7 := { stood := { row := bankCountsRow, standIns := [], harness := (true, "8577c67d7d5e3c0d3e84c6d47565c81a29f742c54d441093e98273c40337cd5a"), looks := true }, kinds := [], alts := [], laidByText := true, laidKinds := [.sentinel, .sentinel, .sentinel, .sentinel, .sentinel, .sentinel, .sentinel, .sentinel, .sentinel, .sentinel, .sentinel, .sentinel], laidTests := true, laidLooks := .later }
def BankCountsCardSaid : Prop := Claim7.holds Tryd.pinned (.plain (OpenSpec.ofChange bankCountsSpec)) bankCountsCard

/-- THE TIED CARD OF 'turnkeylaw18.BankEnds'. -/
def bankEndsCard : Claim7 := { stood := { row := bankEndsRow, standIns := [], harness := (true, "8577c67d7d5e3c0d3e84c6d47565c81a29f742c54d441093e98273c40337cd5a"), looks := true }, kinds := [], alts := [], laidByText := true, laidKinds := [.sentinel, .sentinel, .sentinel, .sentinel, .sentinel, .sentinel, .sentinel, .sentinel, .sentinel, .sentinel, .sentinel, .sentinel], laidTests := true, laidLooks := .later }
def BankEndsCardSaid : Prop := Claim7.holds Tryd.pinned (.plain (OpenSpec.ofChange bankEndsSpec)) bankEndsCard

/-- THE TIED CARD OF 'turnkeylaw18.BankOwns'. -/
def bankOwnsCard : Claim7 := { stood := { row := bankOwnsRow, standIns := [], harness := (true, "8577c67d7d5e3c0d3e84c6d47565c81a29f742c54d441093e98273c40337cd5a"), looks := true }, kinds := [], alts := [], laidByText := true, laidKinds := [.sentinel, .sentinel, .sentinel, .sentinel, .sentinel, .sentinel, .sentinel, .sentinel, .sentinel, .sentinel, .sentinel, .sentinel], laidTests := true, laidLooks := .later }
def BankOwnsCardSaid : Prop := Claim7.holds Tryd.pinned (.plain (OpenSpec.ofChange bankOwnsSpec)) bankOwnsCard

/-- THE TIED CARD OF 'turnkeylaw18.BankRoom'. -/
def bankRoomCard : Claim7 := { stood := { row := bankRoomRow, standIns := [], harness := (true, "8577c67d7d5e3c0d3e84c6d47565c81a29f742c54d441093e98273c40337cd5a"), looks := true }, kinds := [], alts := [], laidByText := true, laidKinds := [.sentinel, .sentinel, .sentinel, .sentinel, .sentinel, .sentinel, .sentinel, .sentinel, .sentinel, .sentinel, .sentinel, .sentinel], laidTests := true, laidLooks := .later }
def BankRoomCardSaid : Prop := Claim7.holds Tryd.pinned (.plain (OpenSpec.ofChange bankRoomSpec)) bankRoomCard

/-- THE TIED CARD OF 'turnkeylaw18.BankDepth'. -/
def bankDepthCard : Claim7 := { stood := { row := bankDepthRow, standIns := [], harness := (true, "8577c67d7d5e3c0d3e84c6d47565c81a29f742c54d441093e98273c40337cd5a"), looks := true }, kinds := [], alts := [], laidByText := true, laidKinds := [.sentinel, .sentinel, .sentinel, .sentinel, .sentinel, .sentinel, .sentinel, .sentinel, .sentinel, .sentinel, .sentinel, .sentinel], laidTests := true, laidLooks := .later }
def BankDepthCardSaid : Prop := Claim7.holds Tryd.pinned (.plain (OpenSpec.ofChange bankDepthSpec)) bankDepthCard

/-- THE TIED CARD OF 'turnkeylaw20.MakerPlays'. -/
def makerPlaysCard : Claim7 := { stood := { row := makerPlaysRow, standIns := [], harness := (true, "8577c67d7d5e3c0d3e84c6d47565c81a29f742c54d441093e98273c40337cd5a"), looks := true }, kinds := [], alts := [], laidByText := true, laidKinds := [.sentinel, .sentinel, .sentinel, .sentinel, .sentinel, .sentinel, .sentinel, .sentinel, .sentinel, .sentinel, .sentinel, .sentinel], laidTests := true, laidLooks := .later }
def MakerPlaysCardSaid : Prop := Claim7.holds Tryd.pinned (.plain (OpenSpec.ofChange makerPlaysSpec)) makerPlaysCard

/-- THE SECOND FORM's CARD OF 'turnkeylaw6.NodePlays'. -/
def nodePlaysUptoCard : Claim7 := { stood := { row := nodePlaysUptoRow, standIns := [], harness := (true, "8577c67d7d5e3c0d3e84c6d47565c81a29f742c54d441093e98273c40337cd5a"), looks := true }, kinds := [], alts := [], laidByText := true, laidKinds := [.sentinel, .sentinel, .sentinel, .sentinel, .sentinel, .sentinel, .sentinel, .sentinel, .sentinel, .sentinel, .sentinel, .sentinel], laidTests := true, laidLooks := .later }
def NodePlaysUptoCardSaid : Prop := Claim7.holds Tryd.pinned (.plain (OpenSpec.upto nodePlaysSpec)) nodePlaysUptoCard

/-- THE SECOND FORM's CARD OF 'turnkeylaw8.StorePlays'. -/
def storePlaysUptoCard : Claim7 := { stood := { row := storePlaysUptoRow, standIns := [], harness := (true, "8577c67d7d5e3c0d3e84c6d47565c81a29f742c54d441093e98273c40337cd5a"), looks := true }, kinds := [], alts := [], laidByText := true, laidKinds := [.sentinel, .sentinel, .sentinel, .sentinel, .sentinel, .sentinel, .sentinel, .sentinel, .sentinel, .sentinel, .sentinel, .sentinel], laidTests := true, laidLooks := .later }
def StorePlaysUptoCardSaid : Prop := Claim7.holds Tryd.pinned (.plain (OpenSpec.upto storePlaysSpec)) storePlaysUptoCard

/-- THE SECOND FORM's CARD OF 'turnkeylaw16.DomPlays'. -/
def domPlaysUptoCard : Claim7 := { stood := { row := domPlaysUptoRow, standIns := [], harness := (true, "8577c67d7d5e3c0d3e84c6d47565c81a29f742c54d441093e98273c40337cd5a"), looks := true }, kinds := [], alts := [], laidByText := true, laidKinds := [.sentinel, .sentinel, .sentinel, .sentinel, .sentinel, .sentinel, .sentinel, .sentinel, .sentinel, .sentinel, .sentinel, .sentinel], laidTests := true, laidLooks := .later }
def DomPlaysUptoCardSaid : Prop := Claim7.holds Tryd.pinned (.plain (OpenSpec.upto domPlaysSpec)) domPlaysUptoCard

/-- THE SECOND FORM's CARD OF 'turnkeylaw16.DomStalls'. -/
def domStallsUptoCard : Claim7 := { stood := { row := domStallsUptoRow, standIns := [], harness := (true, "8577c67d7d5e3c0d3e84c6d47565c81a29f742c54d441093e98273c40337cd5a"), looks := true }, kinds := [], alts := [], laidByText := true, laidKinds := [.sentinel, .sentinel], laidTests := true, laidLooks := .later }
def DomStallsUptoCardSaid : Prop := Claim7.holds Tryd.pinned (.plain (OpenSpec.upto domStallsSpec)) domStallsUptoCard

/-- THE SECOND FORM's CARD OF 'turnkeylaw16.DomResumes'. -/
def domResumesUptoCard : Claim7 := { stood := { row := domResumesUptoRow, standIns := [], harness := (true, "8577c67d7d5e3c0d3e84c6d47565c81a29f742c54d441093e98273c40337cd5a"), looks := true }, kinds := [], alts := [], laidByText := true, laidKinds := [.sentinel, .sentinel, .sentinel, .sentinel], laidTests := true, laidLooks := .later }
def DomResumesUptoCardSaid : Prop := Claim7.holds Tryd.pinned (.plain (OpenSpec.upto domResumesSpec)) domResumesUptoCard

/-- THE SECOND FORM's CARD OF 'turnkeylaw18.BankCounts'. -/
def bankCountsUptoCard : Claim7 := { stood := { row := bankCountsUptoRow, standIns := [], harness := (true, "8577c67d7d5e3c0d3e84c6d47565c81a29f742c54d441093e98273c40337cd5a"), looks := true }, kinds := [], alts := [], laidByText := true, laidKinds := [.sentinel, .sentinel, .sentinel, .sentinel, .sentinel, .sentinel, .sentinel, .sentinel, .sentinel, .sentinel, .sentinel, .sentinel], laidTests := true, laidLooks := .later }
def BankCountsUptoCardSaid : Prop := Claim7.holds Tryd.pinned (.plain (OpenSpec.upto bankCountsSpec)) bankCountsUptoCard

/-- THE SECOND FORM's CARD OF 'turnkeylaw18.BankEnds'. -/
def bankEndsUptoCard : Claim7 := { stood := { row := bankEndsUptoRow, standIns := [], harness := (true, "8577c67d7d5e3c0d3e84c6d47565c81a29f742c54d441093e98273c40337cd5a"), looks := true }, kinds := [], alts := [], laidByText := true, laidKinds := [.sentinel, .sentinel, .sentinel, .sentinel, .sentinel, .sentinel, .sentinel, .sentinel, .sentinel, .sentinel, .sentinel, .sentinel], laidTests := true, laidLooks := .later }
def BankEndsUptoCardSaid : Prop := Claim7.holds Tryd.pinned (.plain (OpenSpec.upto bankEndsSpec)) bankEndsUptoCard

/-- THE SECOND FORM's CARD OF 'turnkeylaw18.BankOwns'. -/
def bankOwnsUptoCard : Claim7 := { stood := { row := bankOwnsUptoRow, standIns := [], harness := (true, "8577c67d7d5e3c0d3e84c6d47565c81a29f742c54d441093e98273c40337cd5a"), looks := true }, kinds := [], alts := [], laidByText := true, laidKinds := [.sentinel, .sentinel, .sentinel, .sentinel, .sentinel, .sentinel, .sentinel, .sentinel, .sentinel, .sentinel, .sentinel, .sentinel], laidTests := true, laidLooks := .later }
def BankOwnsUptoCardSaid : Prop := Claim7.holds Tryd.pinned (.plain (OpenSpec.upto bankOwnsSpec)) bankOwnsUptoCard

/-- THE SECOND FORM's CARD OF 'turnkeylaw18.BankRoom'. -/
def bankRoomUptoCard : Claim7 := { stood := { row := bankRoomUptoRow, standIns := [], harness := (true, "8577c67d7d5e3c0d3e84c6d47565c81a29f742c54d441093e98273c40337cd5a"), looks := true }, kinds := [], alts := [], laidByText := true, laidKinds := [.sentinel, .sentinel, .sentinel, .sentinel, .sentinel, .sentinel, .sentinel, .sentinel, .sentinel, .sentinel, .sentinel, .sentinel], laidTests := true, laidLooks := .later }
def BankRoomUptoCardSaid : Prop := Claim7.holds Tryd.pinned (.plain (OpenSpec.upto bankRoomSpec)) bankRoomUptoCard

/-- THE SECOND FORM's CARD OF 'turnkeylaw18.BankDepth'. -/
def bankDepthUptoCard : Claim7 := { stood := { row := bankDepthUptoRow, standIns := [], harness := (true, "8577c67d7d5e3c0d3e84c6d47565c81a29f742c54d441093e98273c40337cd5a"), looks := true }, kinds := [], alts := [], laidByText := true, laidKinds := [.sentinel, .sentinel, .sentinel, .sentinel, .sentinel, .sentinel, .sentinel, .sentinel, .sentinel, .sentinel, .sentinel, .sentinel], laidTests := true, laidLooks := .later }
def BankDepthUptoCardSaid : Prop := Claim7.holds Tryd.pinned (.plain (OpenSpec.upto bankDepthSpec)) bankDepthUptoCard

/-- THE SECOND FORM's CARD OF 'turnkeylaw20.MakerPlays'. -/
def makerPlaysUptoCard : Claim7 := { stood := { row := makerPlaysUptoRow, standIns := [], harness := (true, "8577c67d7d5e3c0d3e84c6d47565c81a29f742c54d441093e98273c40337cd5a"), looks := true }, kinds := [], alts := [], laidByText := true, laidKinds := [.sentinel, .sentinel, .sentinel, .sentinel, .sentinel, .sentinel, .sentinel, .sentinel, .sentinel, .sentinel, .sentinel, .sentinel], laidTests := true, laidLooks := .later }
def MakerPlaysUptoCardSaid : Prop := Claim7.holds Tryd.pinned (.plain (OpenSpec.upto makerPlaysSpec)) makerPlaysUptoCard
end Rows
end Go.Proofs.YtkogmhgpkacehaaDoor
