/-
  The listed sentinel errors of this seat: their variables' numbers and types.
-/
import Derived.Test.YtncopdhhchmpeaaGreatDoorLaid
namespace Go.Proofs.YtncopdhhchmpeaaGreatDoor
open Go.ChangeShapes Go.WideShapes Go.ChangeAt Go.RowKit
set_option linter.unusedVariables false
theorem errStar : "*" ++ "errors.errorString" = "*errors.errorString" := by decide
theorem errRow (u : TypeId) (h : Tryz.prog.typeName? 3 u = some "*errors.errorString") : u = 276 :=
  typeName_ptr_named (nm := "errors.errorString") (by rw [errStar]; kernel_rfl) (by kernel_rfl) (by decide) u (by rw [errStar]; exact h)
theorem errCells : Tryz.prog.cellsOf 301 = 1 := by kernel_rfl
theorem strCells : Tryz.prog.cellsOf 9 = 1 := by kernel_rfl
theorem gErrShape : Tryz.prog.globalNamed "turnkey/api.ErrShape" = some 6 := by kernel_rfl
theorem tErrShape : (Tryz.prog.globals[6]?).map (·.type) = some 28 := by kernel_rfl
theorem gErrRange : Tryz.prog.globalNamed "turnkey/api.ErrRange" = some 1 := by kernel_rfl
theorem tErrRange : (Tryz.prog.globals[1]?).map (·.type) = some 28 := by kernel_rfl
theorem gErrMany : Tryz.prog.globalNamed "turnkey/api.ErrMany" = some 2 := by kernel_rfl
theorem tErrMany : (Tryz.prog.globals[2]?).map (·.type) = some 28 := by kernel_rfl
theorem gErrNone : Tryz.prog.globalNamed "turnkey/api.ErrNone" = some 0 := by kernel_rfl
theorem tErrNone : (Tryz.prog.globals[0]?).map (·.type) = some 28 := by kernel_rfl
theorem gErrFull : Tryz.prog.globalNamed "turnkey/api.ErrFull" = some 5 := by kernel_rfl
theorem tErrFull : (Tryz.prog.globals[5]?).map (·.type) = some 28 := by kernel_rfl
theorem gErrLimit : Tryz.prog.globalNamed "turnkey/api.ErrLimit" = some 4 := by kernel_rfl
theorem tErrLimit : (Tryz.prog.globals[4]?).map (·.type) = some 28 := by kernel_rfl
theorem gErrOwn : Tryz.prog.globalNamed "turnkey/api.ErrOwn" = some 3 := by kernel_rfl
theorem tErrOwn : (Tryz.prog.globals[3]?).map (·.type) = some 28 := by kernel_rfl
theorem gErrState : Tryz.prog.globalNamed "turnkey/api.ErrState" = some 7 := by kernel_rfl
theorem tErrState : (Tryz.prog.globals[7]?).map (·.type) = some 28 := by kernel_rfl
theorem gErrRight : Tryz.prog.globalNamed "turnkey/api.ErrRight" = some 8 := by kernel_rfl
theorem tErrRight : (Tryz.prog.globals[8]?).map (·.type) = some 28 := by kernel_rfl
/-- The sentinels gs lie in their variables, if each is listed. -/
theorem errs_are {l : List (String × DataW Unit)} {gs : List Nat} {W : World} (h : laidMet Tryz.prog l W)
    (hgs : ∀ g ∈ gs, ∃ n text, (n, DataW.iface "*errors.errorString" (.ptr (.agg [.lit (.string text)]))) ∈ l ∧ Tryz.prog.globalNamed n = some g ∧ (Tryz.prog.globals[g]?).map (·.type) = some 28) :
    Errs 276 gs (atErr W) W :=
  errs_of_laid h hgs Tryz.underlying28 errRow Tryz.underlying276 Tryz.underlying301 rfl rfl Tryz.underlying9 errCells strCells
end Go.Proofs.YtncopdhhchmpeaaGreatDoor
