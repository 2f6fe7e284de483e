/-
  DERIVED. GIVEN WITH THE SEED: THE CARDS: each row of YtggnaalcdekccaaDoorRows.lean that lists a variable, with what it lists TIED to the program's text (the seventh form; the later family's looks); each row that meets fmt, with fmt's text TOLD by the authors' own Lean function (tested against real Go, not proved from fmt's source: count such statements apart). THE CARD IS WHAT COUNTS. Prove the row's statement (the work); the ties are given (YtggnaalcdekccaaDoorTie.lean); close each card by the builder's one call (the guide's Derived/Test/ToyasCard.lean, 'card_holds'). Laid BY PROGRAM, IN A SANDBOX (cutbox-door.mjs). By AI agents, Wed Nov 11 2026. No macro, syntax, notation, axiom, sorry.
-/
import Derived.Test.YtggnaalcdekccaaDoorRows
import GoSem.ClaimSeven
namespace Go.Proofs.YtggnaalcdekccaaDoor
namespace Rows

/-- THE TIED CARD OF 'turnkeylaw1.WirePuts'. -/
def wirePutsCard : Claim7 := { stood := { row := wirePutsRow, standIns := [], harness := (true, "ba327397c1fdd5d20d24d8bb86d0c0b979f5966ffb0adb6f374bd85af4cbca52"), looks := true }, kinds := [], alts := [], laidByText := true, laidKinds := [.sentinel, .sentinel, .sentinel], laidTests := true, laidLooks := .later }
def WirePutsCardSaid : Prop := Claim7.holds Tryd.pinned (.plain (OpenSpec.ofChange wirePutsSpec)) wirePutsCard

/-- THE TIED CARD OF 'turnkeylaw1.WireForms'. -/
def wireFormsCard : Claim7 := { stood := { row := wireFormsRow, standIns := [], harness := (true, "ba327397c1fdd5d20d24d8bb86d0c0b979f5966ffb0adb6f374bd85af4cbca52"), looks := true }, kinds := [], alts := [], laidByText := true, laidKinds := [.sentinel, .sentinel, .sentinel, .sentinel, .sentinel, .sentinel, .sentinel, .sentinel, .sentinel, .sentinel, .sentinel, .sentinel], laidTests := true, laidLooks := .later }
def WireFormsCardSaid : Prop := Claim7.holds Tryd.pinned (.plain (OpenSpec.ofChange wireFormsSpec)) wireFormsCard

/-- THE TIED CARD OF 'turnkeylaw1.WireRanges'. -/
def wireRangesCard : Claim7 := { stood := { row := wireRangesRow, standIns := [], harness := (true, "ba327397c1fdd5d20d24d8bb86d0c0b979f5966ffb0adb6f374bd85af4cbca52"), looks := true }, kinds := [], alts := [], laidByText := true, laidKinds := [.sentinel, .sentinel, .sentinel, .sentinel, .sentinel, .sentinel, .sentinel, .sentinel, .sentinel, .sentinel, .sentinel, .sentinel], laidTests := true, laidLooks := .later }
def WireRangesCardSaid : Prop := Claim7.holds Tryd.pinned (.plain (OpenSpec.ofChange wireRangesSpec)) wireRangesCard

/-- THE TIED CARD OF 'turnkeylaw1.WireCuts'. -/
def wireCutsCard : Claim7 := { stood := { row := wireCutsRow, standIns := [], harness := (true, "ba327397c1fdd5d20d24d8bb86d0c0b979f5966ffb0adb6f374bd85af4cbca52"), looks := true }, kinds := [], alts := [], laidByText := true, laidKinds := [.sentinel, .sentinel, .sentinel, .sentinel, .sentinel, .sentinel, .sentinel, .sentinel, .sentinel, .sentinel, .sentinel, .sentinel], laidTests := true, laidLooks := .later }
def WireCutsCardSaid : Prop := Claim7.holds Tryd.pinned (.plain (OpenSpec.ofChange wireCutsSpec)) wireCutsCard

/-- THE TIED CARD OF 'turnkeylaw3.KeySays'. -/
def keySaysCard : Claim7 := { stood := { row := keySaysRow, standIns := [], harness := (true, "ba327397c1fdd5d20d24d8bb86d0c0b979f5966ffb0adb6f374bd85af4cbca52"), looks := true }, kinds := [], alts := [], laidByText := true, laidKinds := [.data, .data, .data, .sentinel, .sentinel, .sentinel, .sentinel, .sentinel, .sentinel, .sentinel, .sentinel, .sentinel, .sentinel, .sentinel, .sentinel, .data], laidTests := true, laidLooks := .later }
def KeySaysCardSaid : Prop := Claim7.holds Tryd.pinned (.plain (OpenSpec.ofChange keySaysSpec)) keySaysCard

/-- THE TIED CARD OF 'turnkeylaw3.KeyBack'. -/
def keyBackCard : Claim7 := { stood := { row := keyBackRow, standIns := [], harness := (true, "ba327397c1fdd5d20d24d8bb86d0c0b979f5966ffb0adb6f374bd85af4cbca52"), looks := true }, kinds := [], alts := [], laidByText := true, laidKinds := [.data, .data, .data, .sentinel, .sentinel, .data], laidTests := true, laidLooks := .later }
def KeyBackCardSaid : Prop := Claim7.holds Tryd.pinned (.plain (OpenSpec.ofChange keyBackSpec)) keyBackCard

/-- THE TIED CARD OF 'turnkeylaw3.KeyUnlike'. -/
def keyUnlikeCard : Claim7 := { stood := { row := keyUnlikeRow, standIns := [], harness := (true, "ba327397c1fdd5d20d24d8bb86d0c0b979f5966ffb0adb6f374bd85af4cbca52"), looks := true }, kinds := [], alts := [], laidByText := true, laidKinds := [.data, .data, .data, .sentinel, .sentinel, .data], laidTests := true, laidLooks := .later }
def KeyUnlikeCardSaid : Prop := Claim7.holds Tryd.pinned (.plain (OpenSpec.ofChange keyUnlikeSpec)) keyUnlikeCard

/-- THE TIED CARD OF 'turnkeylaw3.KeyBounds'. -/
def keyBoundsCard : Claim7 := { stood := { row := keyBoundsRow, standIns := [], harness := (true, "ba327397c1fdd5d20d24d8bb86d0c0b979f5966ffb0adb6f374bd85af4cbca52"), looks := true }, kinds := [], alts := [], laidByText := true, laidKinds := [.data, .data, .data, .sentinel, .sentinel, .data], laidTests := true, laidLooks := .later }
def KeyBoundsCardSaid : Prop := Claim7.holds Tryd.pinned (.plain (OpenSpec.ofChange keyBoundsSpec)) keyBoundsCard

/-- THE TIED CARD OF 'turnkeylaw3.KeyRows'. -/
def keyRowsCard : Claim7 := { stood := { row := keyRowsRow, standIns := [], harness := (true, "ba327397c1fdd5d20d24d8bb86d0c0b979f5966ffb0adb6f374bd85af4cbca52"), looks := true }, kinds := [], alts := [], laidByText := true, laidKinds := [.data, .data, .data, .sentinel, .sentinel, .data], laidTests := true, laidLooks := .later }
def KeyRowsCardSaid : Prop := Claim7.holds Tryd.pinned (.plain (OpenSpec.ofChange keyRowsSpec)) keyRowsCard

/-- THE SECOND FORM's CARD OF 'turnkeylaw1.WirePuts'. -/
def wirePutsUptoCard : Claim7 := { stood := { row := wirePutsUptoRow, standIns := [], harness := (true, "ba327397c1fdd5d20d24d8bb86d0c0b979f5966ffb0adb6f374bd85af4cbca52"), looks := true }, kinds := [], alts := [], laidByText := true, laidKinds := [.sentinel, .sentinel, .sentinel], laidTests := true, laidLooks := .later }
def WirePutsUptoCardSaid : Prop := Claim7.holds Tryd.pinned (.plain (OpenSpec.upto wirePutsSpec)) wirePutsUptoCard

/-- THE SECOND FORM's CARD OF 'turnkeylaw1.WireForms'. -/
def wireFormsUptoCard : Claim7 := { stood := { row := wireFormsUptoRow, standIns := [], harness := (true, "ba327397c1fdd5d20d24d8bb86d0c0b979f5966ffb0adb6f374bd85af4cbca52"), looks := true }, kinds := [], alts := [], laidByText := true, laidKinds := [.sentinel, .sentinel, .sentinel, .sentinel, .sentinel, .sentinel, .sentinel, .sentinel, .sentinel, .sentinel, .sentinel, .sentinel], laidTests := true, laidLooks := .later }
def WireFormsUptoCardSaid : Prop := Claim7.holds Tryd.pinned (.plain (OpenSpec.upto wireFormsSpec)) wireFormsUptoCard

/-- THE SECOND FORM's CARD OF 'turnkeylaw1.WireRanges'. -/
def wireRangesUptoCard : Claim7 := { stood := { row := wireRangesUptoRow, standIns := [], harness := (true, "ba327397c1fdd5d20d24d8bb86d0c0b979f5966ffb0adb6f374bd85af4cbca52"), looks := true }, kinds := [], alts := [], laidByText := true, laidKinds := [.sentinel, .sentinel, .sentinel, .sentinel, .sentinel, .sentinel, .sentinel, .sentinel, .sentinel, .sentinel, .sentinel, .sentinel], laidTests := true, laidLooks := .later }
def WireRangesUptoCardSaid : Prop := Claim7.holds Tryd.pinned (.plain (OpenSpec.upto wireRangesSpec)) wireRangesUptoCard

/-- THE SECOND FORM's CARD OF 'turnkeylaw1.WireCuts'. -/
def wireCutsUptoCard : Claim7 := { stood := { row := wireCutsUptoRow, standIns := [], harness := (true, "ba327397c1fdd5d20d24d8bb86d0c0b979f5966ffb0adb6f374bd85af4cbca52"), looks := true }, kinds := [], alts := [], laidByText := true, laidKinds := [.sentinel, .sentinel, .sentinel, .sentinel, .sentinel, .sentinel, .sentinel, .sentinel, .sentinel, .sentinel, .sentinel, .sentinel], laidTests := true, laidLooks := .later }
def WireCutsUptoCardSaid : Prop := Claim7.holds Tryd.pinned (.plain (OpenSpec.upto wireCutsSpec)) wireCutsUptoCard

/-- THE SECOND FORM's CARD OF 'turnkeylaw3.KeySays'. -/
def keySaysUptoCard : Claim7 := { stood := { row := keySaysUptoRow, standIns := [], harness := (true, "ba327397c1fdd5d20d24d8bb86d0c0b979f5966ffb0adb6f374bd85af4cbca52"), looks := true }, kinds := [], alts := [], laidByText := true, laidKinds := [.data, .data, .data, .sentinel, .sentinel, .sentinel, .sentinel, .sentinel, .sentinel, .sentinel, .sentinel, .sentinel, .sentinel, .sentinel, .sentinel, .data], laidTests := true, laidLooks := .later }
def KeySaysUptoCardSaid : Prop := Claim7.holds Tryd.pinned (.plain (OpenSpec.upto keySaysSpec)) keySaysUptoCard

/-- THE SECOND FORM's CARD OF 'turnkeylaw3.KeyBack'. -/
def keyBackUptoCard : Claim7 := { stood := { row := keyBackUptoRow, standIns := [], harness := (true, "ba327397c1fdd5d20d24d8bb86d0c0b979f5966ffb0adb6f374bd85af4cbca52"), looks := true }, kinds := [], alts := [], laidByText := true, laidKinds := [.data, .data, .data, .sentinel, .sentinel, .data], laidTests := true, laidLooks := .later }
def KeyBackUptoCardSaid : Prop := Claim7.holds Tryd.pinned (.plain (OpenSpec.upto keyBackSpec)) keyBackUptoCard

/-- THE SECOND FORM's CARD OF 'turnkeylaw3.KeyUnlike'. -/
def keyUnlikeUptoCard : Claim7 := { stood := { row := keyUnlikeUptoRow, standIns := [], harness := (true, "ba327397c1fdd5d20d24d8bb86d0c0b979f5966ffb0adb6f374bd85af4cbca52"), looks := true }, kinds := [], alts := [], laidByText := true, laidKinds := [.data, .data, .data, .sentinel, .sentinel, .data], laidTests := true, laidLooks := .later }
def KeyUnlikeUptoCardSaid : Prop := Claim7.holds Tryd.pinned (.plain (OpenSpec.upto keyUnlikeSpec)) keyUnlikeUptoCard

/-- THE SECOND FORM's CARD OF 'turnkeylaw3.KeyBounds'. -/
def keyBoundsUptoCard : Claim7 := { stood := { row := keyBoundsUptoRow, standIns := [], harness := (true, "ba327397c1fdd5d20d24d8bb86d0c0b979f5966ffb0adb6f374bd85af4cbca52"), looks := true }, kinds := [], alts := [], laidByText := true, laidKinds := [.data, .data, .data, .sentinel, .sentinel, .data], laidTests := true, laidLooks := .later }
def KeyBoundsUptoCardSaid : Prop := Claim7.holds Tryd.pinned (.plain (OpenSpec.upto keyBoundsSpec)) keyBoundsUptoCard

/-- THE SECOND FORM's CARD OF 'turnkeylaw3.KeyRows'. -/
def keyRowsUptoCard : Claim7 := { stood := { row := keyRowsUptoRow, standIns := [], harness := (true, "ba327397c1fdd5d20d24d8bb86d0c0b979f5966ffb0adb6f374bd85af4cbca52"), looks := true }, kinds := [], alts := [], laidByText := true, laidKinds := [.data, .data, .data, .sentinel, .sentinel, .data], laidTests := true, laidLooks := .later }
def KeyRowsUptoCardSaid : Prop := Claim7.holds Tryd.pinned (.plain (OpenSpec.upto keyRowsSpec)) keyRowsUptoCard
end Rows
end Go.Proofs.YtggnaalcdekccaaDoor
