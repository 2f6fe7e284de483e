/-
  DERIVED. GIVEN WITH THE SEED: THE CARDS: each row of YthgjejclhdolmaaGreatDoorRows.lean that lists a variable, with what it lists TIED to the program's text (the seventh form; the later family's looks); each row that meets fmt, with fmt's text TOLD by the authors' own Lean function (tested against real Go, not proved from fmt's source: count such statements apart). THE CARD IS WHAT COUNTS. Prove the row's statement (the work); the ties are given (YthgjejclhdolmaaGreatDoorTie.lean); close each card by the builder's one call (the guide's Derived/Test/ToyasCard.lean, 'card_holds'). Laid BY PROGRAM, IN A SANDBOX (cutbox-door.mjs). By AI agents, Wed Nov 11 2026. No macro, syntax, notation, axiom, sorry.
-/
import Derived.Test.YthgjejclhdolmaaGreatDoorRows
import GoSem.ClaimSeven
namespace Go.Proofs.YthgjejclhdolmaaGreatDoor
namespace Rows

/-- THE TIED CARD OF 'turnkeylaw22.ObjectDomains'. -/
def objectDomainsCard : Claim7 := { stood := { row := objectDomainsRow, standIns := [], harness := (true, "87fe3faf9975d9bacf8a2f67b41426d731a3c54575267de3e6b729df45fe47e3"), looks := true }, kinds := [], alts := [], laidByText := true, laidKinds := [.sentinel, .sentinel, .sentinel, .sentinel, .sentinel, .sentinel, .sentinel, .sentinel, .sentinel], laidTests := true, laidLooks := .later }
def ObjectDomainsCardSaid : Prop := Claim7.holds Tryz.pinned (.plain (OpenSpec.ofChange objectDomainsSpec)) objectDomainsCard

/-- THE SECOND FORM's CARD OF 'turnkeylaw22.ObjectDomains'. -/
def objectDomainsUptoCard : Claim7 := { stood := { row := objectDomainsUptoRow, standIns := [], harness := (true, "87fe3faf9975d9bacf8a2f67b41426d731a3c54575267de3e6b729df45fe47e3"), looks := true }, kinds := [], alts := [], laidByText := true, laidKinds := [.sentinel, .sentinel, .sentinel, .sentinel, .sentinel, .sentinel, .sentinel, .sentinel, .sentinel], laidTests := true, laidLooks := .later }
def ObjectDomainsUptoCardSaid : Prop := Claim7.holds Tryz.pinned (.plain (OpenSpec.upto objectDomainsSpec)) objectDomainsUptoCard
end Rows
end Go.Proofs.YthgjejclhdolmaaGreatDoor
