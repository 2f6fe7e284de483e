/-
  turnkeysee: errors as plain data: contracts of Alike, sentinels, sentinel, Fault, Same, Is.
-/
import Derived.Test.YtncopdhhchmpeaaGreatDoorErrs
import Derived.Outline
import Derived.Deep.RegionHeld3
import Derived.Deep.RegionWith
import Derived.Deep.DrawnRows
import Derived.WalkLawsBesides
import Derived.WalkSpells
namespace Go.Proofs.YtncopdhhchmpeaaGreatDoor
open Go.ChangeShapes Go.WideShapes Go.ChangeAt Go.RowKit
set_option linter.unusedVariables false
theorem bcell2 {W w1 : World} (hb : Below W.heap.size W w1) : (∀ b o, b < W.heap.size → w1.cell? ⟨b, o, none⟩ = W.cell? ⟨b, o, none⟩) ∧ (∀ b o, b < W.heap.size → w1.frozen? ⟨b, o, none⟩ = W.frozen? ⟨b, o, none⟩) :=
  ⟨fun b o h => hb.cell (p := ⟨b, o, none⟩) h, fun b o h => hb.frozen (p := ⟨b, o, none⟩) h⟩
abbrev eV (a : Addr) : Value := .iface 276 (.pointer (some a))
theorem infoErrPtr : ((Tryz.prog.info? 276).map (·.comparable)) = some true := by kernel_rfl
theorem infoErr : ((Tryz.prog.info? 301).map (·.size)) = some 1 := by kernel_rfl
/-- Are two faults the same? -/
def faultB (c n c' n' : Int) (p p' : Bool) : Bool := c == c' && (p == p' && n == n')
theorem set3 {w1 : World} {b : Nat} {u0 u1 u2 : Value} (v0 v1 v2 : Value) (h0 : w1.cell? ⟨b, 0, none⟩ = some u0) (h1 : w1.cell? ⟨b, 1, none⟩ = some u1) (h2 : w1.cell? ⟨b, 2, none⟩ = some u2) :
    (((w1.setCell ⟨b, 0, none⟩ v0).setCell ⟨b, 1, none⟩ v1).setCell ⟨b, 2, none⟩ v2).cell? ⟨b, 0, none⟩ = some v0 ∧ (((w1.setCell ⟨b, 0, none⟩ v0).setCell ⟨b, 1, none⟩ v1).setCell ⟨b, 2, none⟩ v2).cell? ⟨b, 1, none⟩ = some v1 ∧ (((w1.setCell ⟨b, 0, none⟩ v0).setCell ⟨b, 1, none⟩ v1).setCell ⟨b, 2, none⟩ v2).cell? ⟨b, 2, none⟩ = some v2 := by
  have all : ∀ (j : Nat) (hj : j < 3), (w1.setCells b 0 [v0, v1, v2]).cell? ⟨b, 0 + j, none⟩ = some ([v0, v1, v2][j]'hj) := fun j hj => World.cell?_setCells_in b [v0, v1, v2] 0 w1 (by
    intro i hi
    match i, hi with
    | 0, _ => simp [h0]
    | 1, _ => simp [h1]
    | 2, _ => simp [h2]) j (by simpa using hj)
  exact ⟨all 0 (by decide), all 1 (by decide), all 2 (by decide)⟩
end Go.Proofs.YtncopdhhchmpeaaGreatDoor
