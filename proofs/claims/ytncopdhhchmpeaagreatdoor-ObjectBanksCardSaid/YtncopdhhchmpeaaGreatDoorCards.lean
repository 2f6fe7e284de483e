/-
  DERIVED. GIVEN WITH THE SEED: THE CARDS: each row of YtncopdhhchmpeaaGreatDoorRows.lean that lists a variable, with what it lists TIED to the program's text (the seventh form; the later family's looks); each row that meets fmt, with fmt's text TOLD by the authors' own Lean function (tested against real Go, not proved from fmt's source: count such statements apart). THE CARD IS WHAT COUNTS. Prove the row's statement (the work); the ties are given (YtncopdhhchmpeaaGreatDoorTie.lean); close each card by the builder's one call (the guide's Derived/Test/ToyasCard.lean, 'card_holds'). Laid BY PROGRAM, IN A SANDBOX (cutbox-door.mjs). By AI agents, Wed Nov 11 2026. No macro, syntax, notation, axiom, sorry.
-/
import Derived.Test.YtncopdhhchmpeaaGreatDoorRows
import GoSem.ClaimSeven
namespace Go.Proofs.YtncopdhhchmpeaaGreatDoor
namespace Rows

/-- THE TIED CARD OF 'turnkeylaw21.SysGone'. -/
def sysGoneCard : Claim7 := { stood := { row := sysGoneRow, standIns := [], harness := (true, "97f7df87eec64bde13614a196b45fc3799848dda3c9bb06831f55639688b0ff5"), looks := true }, kinds := [], alts := [], laidByText := true, laidKinds := [.sentinel, .sentinel, .sentinel, .sentinel, .sentinel, .sentinel, .sentinel], laidTests := true, laidLooks := .later }
def SysGoneCardSaid : Prop := Claim7.holds Tryz.pinned (.plain (OpenSpec.ofChange sysGoneSpec)) sysGoneCard

/-- THE TIED CARD OF 'turnkeylaw22.ObjectKinds'. -/
def objectKindsCard : Claim7 := { stood := { row := objectKindsRow, standIns := [], harness := (true, "97f7df87eec64bde13614a196b45fc3799848dda3c9bb06831f55639688b0ff5"), looks := true }, kinds := [], alts := [], laidByText := true, laidKinds := [.sentinel, .sentinel, .sentinel, .sentinel, .sentinel, .sentinel, .sentinel, .sentinel, .sentinel], laidTests := true, laidLooks := .later }
def ObjectKindsCardSaid : Prop := Claim7.holds Tryz.pinned (.plain (OpenSpec.ofChange objectKindsSpec)) objectKindsCard

/-- THE TIED CARD OF 'turnkeylaw22.ObjectMemory'. -/
def objectMemoryCard : Claim7 := { stood := { row := objectMemoryRow, standIns := [], harness := (true, "97f7df87eec64bde13614a196b45fc3799848dda3c9bb06831f55639688b0ff5"), looks := true }, kinds := [], alts := [], laidByText := true, laidKinds := [.sentinel, .sentinel, .sentinel, .sentinel, .sentinel, .sentinel, .sentinel, .sentinel, .sentinel], laidTests := true, laidLooks := .later }
def ObjectMemoryCardSaid : Prop := Claim7.holds Tryz.pinned (.plain (OpenSpec.ofChange objectMemorySpec)) objectMemoryCard

/-- THE TIED CARD OF 'turnkeylaw22.ObjectBanks'. -/
def objectBanksCard : Claim7 := { stood := { row := objectBanksRow, standIns := [], harness := (true, "97f7df87eec64bde13614a196b45fc3799848dda3c9bb06831f55639688b0ff5"), looks := true }, kinds := [], alts := [], laidByText := true, laidKinds := [.sentinel, .sentinel, .sentinel, .sentinel, .sentinel, .sentinel, .sentinel, .sentinel, .sentinel], laidTests := true, laidLooks := .later }
def ObjectBanksCardSaid : Prop := Claim7.holds Tryz.pinned (.plain (OpenSpec.ofChange objectBanksSpec)) objectBanksCard

/-- THE TIED CARD OF 'turnkeylaw22.ObjectJudges'. -/
def objectJudgesCard : Claim7 := { stood := { row := objectJudgesRow, standIns := [], harness := (true, "97f7df87eec64bde13614a196b45fc3799848dda3c9bb06831f55639688b0ff5"), looks := true }, kinds := [], alts := [], laidByText := true, laidKinds := [.sentinel, .sentinel, .sentinel, .sentinel, .sentinel, .sentinel, .sentinel, .sentinel, .sentinel], laidTests := true, laidLooks := .later }
def ObjectJudgesCardSaid : Prop := Claim7.holds Tryz.pinned (.plain (OpenSpec.ofChange objectJudgesSpec)) objectJudgesCard

/-- THE TIED CARD OF 'turnkeylaw22.ObjectDomains'. -/
def objectDomainsCard : Claim7 := { stood := { row := objectDomainsRow, standIns := [], harness := (true, "97f7df87eec64bde13614a196b45fc3799848dda3c9bb06831f55639688b0ff5"), looks := true }, kinds := [], alts := [], laidByText := true, laidKinds := [.sentinel, .sentinel, .sentinel, .sentinel, .sentinel, .sentinel, .sentinel, .sentinel, .sentinel], laidTests := true, laidLooks := .later }
def ObjectDomainsCardSaid : Prop := Claim7.holds Tryz.pinned (.plain (OpenSpec.ofChange objectDomainsSpec)) objectDomainsCard

/-- THE TIED CARD OF 'turnkeylaw22.ObjectMeters'. -/
def objectMetersCard : Claim7 := { stood := { row := objectMetersRow, standIns := [], harness := (true, "97f7df87eec64bde13614a196b45fc3799848dda3c9bb06831f55639688b0ff5"), looks := true }, kinds := [], alts := [], laidByText := true, laidKinds := [.sentinel, .sentinel, .sentinel, .sentinel, .sentinel, .sentinel, .sentinel, .sentinel, .sentinel], laidTests := true, laidLooks := .later }
def ObjectMetersCardSaid : Prop := Claim7.holds Tryz.pinned (.plain (OpenSpec.ofChange objectMetersSpec)) objectMetersCard

/-- THE SECOND FORM's CARD OF 'turnkeylaw21.SysGone'. -/
def sysGoneUptoCard : Claim7 := { stood := { row := sysGoneUptoRow, standIns := [], harness := (true, "97f7df87eec64bde13614a196b45fc3799848dda3c9bb06831f55639688b0ff5"), looks := true }, kinds := [], alts := [], laidByText := true, laidKinds := [.sentinel, .sentinel, .sentinel, .sentinel, .sentinel, .sentinel, .sentinel], laidTests := true, laidLooks := .later }
def SysGoneUptoCardSaid : Prop := Claim7.holds Tryz.pinned (.plain (OpenSpec.upto sysGoneSpec)) sysGoneUptoCard

/-- THE SECOND FORM's CARD OF 'turnkeylaw22.ObjectKinds'. -/
def objectKindsUptoCard : Claim7 := { stood := { row := objectKindsUptoRow, standIns := [], harness := (true, "97f7df87eec64bde13614a196b45fc3799848dda3c9bb06831f55639688b0ff5"), looks := true }, kinds := [], alts := [], laidByText := true, laidKinds := [.sentinel, .sentinel, .sentinel, .sentinel, .sentinel, .sentinel, .sentinel, .sentinel, .sentinel], laidTests := true, laidLooks := .later }
def ObjectKindsUptoCardSaid : Prop := Claim7.holds Tryz.pinned (.plain (OpenSpec.upto objectKindsSpec)) objectKindsUptoCard

/-- THE SECOND FORM's CARD OF 'turnkeylaw22.ObjectMemory'. -/
def objectMemoryUptoCard : Claim7 := { stood := { row := objectMemoryUptoRow, standIns := [], harness := (true, "97f7df87eec64bde13614a196b45fc3799848dda3c9bb06831f55639688b0ff5"), looks := true }, kinds := [], alts := [], laidByText := true, laidKinds := [.sentinel, .sentinel, .sentinel, .sentinel, .sentinel, .sentinel, .sentinel, .sentinel, .sentinel], laidTests := true, laidLooks := .later }
def ObjectMemoryUptoCardSaid : Prop := Claim7.holds Tryz.pinned (.plain (OpenSpec.upto objectMemorySpec)) objectMemoryUptoCard

/-- THE SECOND FORM's CARD OF 'turnkeylaw22.ObjectBanks'. -/
def objectBanksUptoCard : Claim7 := { stood := { row := objectBanksUptoRow, standIns := [], harness := (true, "97f7df87eec64bde13614a196b45fc3799848dda3c9bb06831f55639688b0ff5"), looks := true }, kinds := [], alts := [], laidByText := true, laidKinds := [.sentinel, .sentinel, .sentinel, .sentinel, .sentinel, .sentinel, .sentinel, .sentinel, .sentinel], laidTests := true, laidLooks := .later }
def ObjectBanksUptoCardSaid : Prop := Claim7.holds Tryz.pinned (.plain (OpenSpec.upto objectBanksSpec)) objectBanksUptoCard

/-- THE SECOND FORM's CARD OF 'turnkeylaw22.ObjectJudges'. -/
def objectJudgesUptoCard : Claim7 := { stood := { row := objectJudgesUptoRow, standIns := [], harness := (true, "97f7df87eec64bde13614a196b45fc3799848dda3c9bb06831f55639688b0ff5"), looks := true }, kinds := [], alts := [], laidByText := true, laidKinds := [.sentinel, .sentinel, .sentinel, .sentinel, .sentinel, .sentinel, .sentinel, .sentinel, .sentinel], laidTests := true, laidLooks := .later }
def ObjectJudgesUptoCardSaid : Prop := Claim7.holds Tryz.pinned (.plain (OpenSpec.upto objectJudgesSpec)) objectJudgesUptoCard

/-- THE SECOND FORM's CARD OF 'turnkeylaw22.ObjectDomains'. -/
def objectDomainsUptoCard : Claim7 := { stood := { row := objectDomainsUptoRow, standIns := [], harness := (true, "97f7df87eec64bde13614a196b45fc3799848dda3c9bb06831f55639688b0ff5"), looks := true }, kinds := [], alts := [], laidByText := true, laidKinds := [.sentinel, .sentinel, .sentinel, .sentinel, .sentinel, .sentinel, .sentinel, .sentinel, .sentinel], laidTests := true, laidLooks := .later }
def ObjectDomainsUptoCardSaid : Prop := Claim7.holds Tryz.pinned (.plain (OpenSpec.upto objectDomainsSpec)) objectDomainsUptoCard

/-- THE SECOND FORM's CARD OF 'turnkeylaw22.ObjectMeters'. -/
def objectMetersUptoCard : Claim7 := { stood := { row := objectMetersUptoRow, standIns := [], harness := (true, "97f7df87eec64bde13614a196b45fc3799848dda3c9bb06831f55639688b0ff5"), looks := true }, kinds := [], alts := [], laidByText := true, laidKinds := [.sentinel, .sentinel, .sentinel, .sentinel, .sentinel, .sentinel, .sentinel, .sentinel, .sentinel], laidTests := true, laidLooks := .later }
def ObjectMetersUptoCardSaid : Prop := Claim7.holds Tryz.pinned (.plain (OpenSpec.upto objectMetersSpec)) objectMetersUptoCard
end Rows
end Go.Proofs.YtncopdhhchmpeaaGreatDoor
