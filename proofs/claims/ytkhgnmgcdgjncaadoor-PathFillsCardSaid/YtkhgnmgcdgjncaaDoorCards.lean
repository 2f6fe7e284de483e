/-
  DERIVED. GIVEN WITH THE SEED: THE CARDS: each row of YtkhgnmgcdgjncaaDoorRows.lean that lists a variable, with what it lists TIED to the program's text (the seventh form; the later family's looks); each row that meets fmt, with fmt's text TOLD by the authors' own Lean function (tested against real Go, not proved from fmt's source: count such statements apart). THE CARD IS WHAT COUNTS. Prove the row's statement (the work); the ties are given (YtkhgnmgcdgjncaaDoorTie.lean); close each card by the builder's one call (the guide's Derived/Test/ToyasCard.lean, 'card_holds'). Laid BY PROGRAM, IN A SANDBOX (cutbox-door.mjs). By AI agents, Wed Nov 11 2026. No macro, syntax, notation, axiom, sorry.
-/
import Derived.Test.YtkhgnmgcdgjncaaDoorRows
import GoSem.ClaimSeven
namespace Go.Proofs.YtkhgnmgcdgjncaaDoor
namespace Rows

/-- THE TIED CARD OF 'turnkeylaw8.StorePlays'. -/
def storePlaysCard : Claim7 := { stood := { row := storePlaysRow, standIns := [], harness := (true, "56f5b50a9dcf6d9967be488321fefc96a292dc7dda30844f89021c26ebc2f803"), looks := true }, kinds := [], alts := [], laidByText := true, laidKinds := [.sentinel, .sentinel, .sentinel, .sentinel, .sentinel, .sentinel, .sentinel, .sentinel, .sentinel, .sentinel, .sentinel, .sentinel], laidTests := true, laidLooks := .later }
def StorePlaysCardSaid : Prop := Claim7.holds Tryd.pinned (.plain (OpenSpec.ofChange storePlaysSpec)) storePlaysCard

/-- THE TIED CARD OF 'turnkeylaw8.StoreSwaps'. -/
def storeSwapsCard : Claim7 := { stood := { row := storeSwapsRow, standIns := [], harness := (true, "56f5b50a9dcf6d9967be488321fefc96a292dc7dda30844f89021c26ebc2f803"), looks := true }, kinds := [], alts := [], laidByText := true, laidKinds := [.sentinel, .sentinel, .sentinel, .sentinel, .sentinel, .sentinel, .sentinel, .sentinel, .sentinel, .sentinel, .sentinel, .sentinel], laidTests := true, laidLooks := .later }
def StoreSwapsCardSaid : Prop := Claim7.holds Tryd.pinned (.plain (OpenSpec.ofChange storeSwapsSpec)) storeSwapsCard

/-- THE TIED CARD OF 'turnkeylaw8.StoreGone'. -/
def storeGoneCard : Claim7 := { stood := { row := storeGoneRow, standIns := [], harness := (true, "56f5b50a9dcf6d9967be488321fefc96a292dc7dda30844f89021c26ebc2f803"), looks := true }, kinds := [], alts := [], laidByText := true, laidKinds := [.sentinel, .sentinel, .sentinel, .sentinel, .sentinel, .sentinel, .sentinel, .sentinel, .sentinel, .sentinel, .sentinel, .sentinel], laidTests := true, laidLooks := .later }
def StoreGoneCardSaid : Prop := Claim7.holds Tryd.pinned (.plain (OpenSpec.ofChange storeGoneSpec)) storeGoneCard

/-- THE TIED CARD OF 'turnkeylaw9.PathFills'. -/
def pathFillsCard : Claim7 := { stood := { row := pathFillsRow, standIns := [], harness := (true, "56f5b50a9dcf6d9967be488321fefc96a292dc7dda30844f89021c26ebc2f803"), looks := true }, kinds := [], alts := [], laidByText := true, laidKinds := [.sentinel, .sentinel, .sentinel, .sentinel, .sentinel], laidTests := true, laidLooks := .later }
def PathFillsCardSaid : Prop := Claim7.holds Tryd.pinned (.plain (OpenSpec.ofChange pathFillsSpec)) pathFillsCard

/-- THE TIED CARD OF 'turnkeylaw9.PathRights'. -/
def pathRightsCard : Claim7 := { stood := { row := pathRightsRow, standIns := [], harness := (true, "56f5b50a9dcf6d9967be488321fefc96a292dc7dda30844f89021c26ebc2f803"), looks := true }, kinds := [], alts := [], laidByText := true, laidKinds := [.sentinel, .sentinel, .sentinel, .sentinel, .sentinel], laidTests := true, laidLooks := .later }
def PathRightsCardSaid : Prop := Claim7.holds Tryd.pinned (.plain (OpenSpec.ofChange pathRightsSpec)) pathRightsCard

/-- THE TIED CARD OF 'turnkeylaw9.PathLoops'. -/
def pathLoopsCard : Claim7 := { stood := { row := pathLoopsRow, standIns := [], harness := (true, "56f5b50a9dcf6d9967be488321fefc96a292dc7dda30844f89021c26ebc2f803"), looks := true }, kinds := [], alts := [], laidByText := true, laidKinds := [.sentinel, .sentinel, .sentinel, .sentinel, .sentinel], laidTests := true, laidLooks := .later }
def PathLoopsCardSaid : Prop := Claim7.holds Tryd.pinned (.plain (OpenSpec.ofChange pathLoopsSpec)) pathLoopsCard

/-- THE TIED CARD OF 'turnkeylaw9.PathFaults'. -/
def pathFaultsCard : Claim7 := { stood := { row := pathFaultsRow, standIns := [], harness := (true, "56f5b50a9dcf6d9967be488321fefc96a292dc7dda30844f89021c26ebc2f803"), looks := true }, kinds := [], alts := [], laidByText := true, laidKinds := [.sentinel, .sentinel, .sentinel, .sentinel, .sentinel], laidTests := true, laidLooks := .later }
def PathFaultsCardSaid : Prop := Claim7.holds Tryd.pinned (.plain (OpenSpec.ofChange pathFaultsSpec)) pathFaultsCard

/-- THE TIED CARD OF 'turnkeylaw9.PathLow'. -/
def pathLowCard : Claim7 := { stood := { row := pathLowRow, standIns := [], harness := (true, "56f5b50a9dcf6d9967be488321fefc96a292dc7dda30844f89021c26ebc2f803"), looks := true }, kinds := [], alts := [], laidByText := true, laidKinds := [.sentinel, .sentinel, .sentinel, .sentinel, .sentinel], laidTests := true, laidLooks := .later }
def PathLowCardSaid : Prop := Claim7.holds Tryd.pinned (.plain (OpenSpec.ofChange pathLowSpec)) pathLowCard

/-- THE SECOND FORM's CARD OF 'turnkeylaw8.StorePlays'. -/
def storePlaysUptoCard : Claim7 := { stood := { row := storePlaysUptoRow, standIns := [], harness := (true, "56f5b50a9dcf6d9967be488321fefc96a292dc7dda30844f89021c26ebc2f803"), looks := true }, kinds := [], alts := [], laidByText := true, laidKinds := [.sentinel, .sentinel, .sentinel, .sentinel, .sentinel, .sentinel, .sentinel, .sentinel, .sentinel, .sentinel, .sentinel, .sentinel], laidTests := true, laidLooks := .later }
def StorePlaysUptoCardSaid : Prop := Claim7.holds Tryd.pinned (.plain (OpenSpec.upto storePlaysSpec)) storePlaysUptoCard

/-- THE SECOND FORM's CARD OF 'turnkeylaw8.StoreSwaps'. -/
def storeSwapsUptoCard : Claim7 := { stood := { row := storeSwapsUptoRow, standIns := [], harness := (true, "56f5b50a9dcf6d9967be488321fefc96a292dc7dda30844f89021c26ebc2f803"), looks := true }, kinds := [], alts := [], laidByText := true, laidKinds := [.sentinel, .sentinel, .sentinel, .sentinel, .sentinel, .sentinel, .sentinel, .sentinel, .sentinel, .sentinel, .sentinel, .sentinel], laidTests := true, laidLooks := .later }
def StoreSwapsUptoCardSaid : Prop := Claim7.holds Tryd.pinned (.plain (OpenSpec.upto storeSwapsSpec)) storeSwapsUptoCard

/-- THE SECOND FORM's CARD OF 'turnkeylaw8.StoreGone'. -/
def storeGoneUptoCard : Claim7 := { stood := { row := storeGoneUptoRow, standIns := [], harness := (true, "56f5b50a9dcf6d9967be488321fefc96a292dc7dda30844f89021c26ebc2f803"), looks := true }, kinds := [], alts := [], laidByText := true, laidKinds := [.sentinel, .sentinel, .sentinel, .sentinel, .sentinel, .sentinel, .sentinel, .sentinel, .sentinel, .sentinel, .sentinel, .sentinel], laidTests := true, laidLooks := .later }
def StoreGoneUptoCardSaid : Prop := Claim7.holds Tryd.pinned (.plain (OpenSpec.upto storeGoneSpec)) storeGoneUptoCard

/-- THE SECOND FORM's CARD OF 'turnkeylaw9.PathFills'. -/
def pathFillsUptoCard : Claim7 := { stood := { row := pathFillsUptoRow, standIns := [], harness := (true, "56f5b50a9dcf6d9967be488321fefc96a292dc7dda30844f89021c26ebc2f803"), looks := true }, kinds := [], alts := [], laidByText := true, laidKinds := [.sentinel, .sentinel, .sentinel, .sentinel, .sentinel], laidTests := true, laidLooks := .later }
def PathFillsUptoCardSaid : Prop := Claim7.holds Tryd.pinned (.plain (OpenSpec.upto pathFillsSpec)) pathFillsUptoCard

/-- THE SECOND FORM's CARD OF 'turnkeylaw9.PathRights'. -/
def pathRightsUptoCard : Claim7 := { stood := { row := pathRightsUptoRow, standIns := [], harness := (true, "56f5b50a9dcf6d9967be488321fefc96a292dc7dda30844f89021c26ebc2f803"), looks := true }, kinds := [], alts := [], laidByText := true, laidKinds := [.sentinel, .sentinel, .sentinel, .sentinel, .sentinel], laidTests := true, laidLooks := .later }
def PathRightsUptoCardSaid : Prop := Claim7.holds Tryd.pinned (.plain (OpenSpec.upto pathRightsSpec)) pathRightsUptoCard

/-- THE SECOND FORM's CARD OF 'turnkeylaw9.PathLoops'. -/
def pathLoopsUptoCard : Claim7 := { stood := { row := pathLoopsUptoRow, standIns := [], harness := (true, "56f5b50a9dcf6d9967be488321fefc96a292dc7dda30844f89021c26ebc2f803"), looks := true }, kinds := [], alts := [], laidByText := true, laidKinds := [.sentinel, .sentinel, .sentinel, .sentinel, .sentinel], laidTests := true, laidLooks := .later }
def PathLoopsUptoCardSaid : Prop := Claim7.holds Tryd.pinned (.plain (OpenSpec.upto pathLoopsSpec)) pathLoopsUptoCard

/-- THE SECOND FORM's CARD OF 'turnkeylaw9.PathFaults'. -/
def pathFaultsUptoCard : Claim7 := { stood := { row := pathFaultsUptoRow, standIns := [], harness := (true, "56f5b50a9dcf6d9967be488321fefc96a292dc7dda30844f89021c26ebc2f803"), looks := true }, kinds := [], alts := [], laidByText := true, laidKinds := [.sentinel, .sentinel, .sentinel, .sentinel, .sentinel], laidTests := true, laidLooks := .later }
def PathFaultsUptoCardSaid : Prop := Claim7.holds Tryd.pinned (.plain (OpenSpec.upto pathFaultsSpec)) pathFaultsUptoCard

/-- THE SECOND FORM's CARD OF 'turnkeylaw9.PathLow'. -/
def pathLowUptoCard : Claim7 := { stood := { row := pathLowUptoRow, standIns := [], harness := (true, "56f5b50a9dcf6d9967be488321fefc96a292dc7dda30844f89021c26ebc2f803"), looks := true }, kinds := [], alts := [], laidByText := true, laidKinds := [.sentinel, .sentinel, .sentinel, .sentinel, .sentinel], laidTests := true, laidLooks := .later }
def PathLowUptoCardSaid : Prop := Claim7.holds Tryd.pinned (.plain (OpenSpec.upto pathLowSpec)) pathLowUptoCard
end Rows
end Go.Proofs.YtkhgnmgcdgjncaaDoor
