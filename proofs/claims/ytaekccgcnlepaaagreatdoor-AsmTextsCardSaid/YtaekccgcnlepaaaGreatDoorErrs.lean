/-
  The listed sentinel errors of this seat: their variables' numbers and types.
-/
import Derived.Test.YtaekccgcnlepaaaGreatDoorLaid
namespace Go.Proofs.YtaekccgcnlepaaaGreatDoor
open Go.ChangeShapes Go.WideShapes Go.ChangeAt Go.RowKit
set_option linter.unusedVariables false
theorem errStar : "*" ++ "errors.errorString" = "*errors.errorString" := by decide
theorem errRow (u : TypeId) (h : Tryz.prog.typeName? 3 u = some "*errors.errorString") : u = 153 :=
  typeName_ptr_named (nm := "errors.errorString") (by rw [errStar]; kernel_rfl) (by kernel_rfl) (by decide) u (by rw [errStar]; exact h)
theorem errCells : Tryz.prog.cellsOf 155 = 1 := by kernel_rfl
theorem strCells : Tryz.prog.cellsOf 9 = 1 := by kernel_rfl
theorem gErrEnd : Tryz.prog.globalNamed "turnkey/api.ErrEnd" = some 8 := by kernel_rfl
theorem tErrEnd : (Tryz.prog.globals[8]?).map (·.type) = some 27 := by kernel_rfl
theorem gErrShape : Tryz.prog.globalNamed "turnkey/api.ErrShape" = some 9 := by kernel_rfl
theorem tErrShape : (Tryz.prog.globals[9]?).map (·.type) = some 27 := by kernel_rfl
theorem gErrRange : Tryz.prog.globalNamed "turnkey/api.ErrRange" = some 5 := by kernel_rfl
theorem tErrRange : (Tryz.prog.globals[5]?).map (·.type) = some 27 := by kernel_rfl
theorem gErrMany : Tryz.prog.globalNamed "turnkey/api.ErrMany" = some 0 := by kernel_rfl
theorem tErrMany : (Tryz.prog.globals[0]?).map (·.type) = some 27 := by kernel_rfl
theorem gErrNone : Tryz.prog.globalNamed "turnkey/api.ErrNone" = some 10 := by kernel_rfl
theorem tErrNone : (Tryz.prog.globals[10]?).map (·.type) = some 27 := by kernel_rfl
theorem gErrFull : Tryz.prog.globalNamed "turnkey/api.ErrFull" = some 11 := by kernel_rfl
theorem tErrFull : (Tryz.prog.globals[11]?).map (·.type) = some 27 := by kernel_rfl
theorem gErrLimit : Tryz.prog.globalNamed "turnkey/api.ErrLimit" = some 12 := by kernel_rfl
theorem tErrLimit : (Tryz.prog.globals[12]?).map (·.type) = some 27 := by kernel_rfl
theorem gErrOwn : Tryz.prog.globalNamed "turnkey/api.ErrOwn" = some 13 := by kernel_rfl
theorem tErrOwn : (Tryz.prog.globals[13]?).map (·.type) = some 27 := by kernel_rfl
theorem gErrState : Tryz.prog.globalNamed "turnkey/api.ErrState" = some 14 := by kernel_rfl
theorem tErrState : (Tryz.prog.globals[14]?).map (·.type) = some 27 := by kernel_rfl
theorem gErrRight : Tryz.prog.globalNamed "turnkey/api.ErrRight" = some 15 := by kernel_rfl
theorem tErrRight : (Tryz.prog.globals[15]?).map (·.type) = some 27 := by kernel_rfl
theorem gErrWord : Tryz.prog.globalNamed "turnkey/api.ErrWord" = some 4 := by kernel_rfl
theorem tErrWord : (Tryz.prog.globals[4]?).map (·.type) = some 27 := by kernel_rfl
theorem gErrNumber : Tryz.prog.globalNamed "turnkey/api.ErrNumber" = some 2 := by kernel_rfl
theorem tErrNumber : (Tryz.prog.globals[2]?).map (·.type) = some 27 := by kernel_rfl
/-- The sentinels gs lie in their variables, if each is listed. -/
theorem errs_are {l : List (String × DataW Unit)} {gs : List Nat} {W : World} (h : laidMet Tryz.prog l W)
    (hgs : ∀ g ∈ gs, ∃ n text, (n, DataW.iface "*errors.errorString" (.ptr (.agg [.lit (.string text)]))) ∈ l ∧ Tryz.prog.globalNamed n = some g ∧ (Tryz.prog.globals[g]?).map (·.type) = some 27) :
    Errs 153 gs (atErr W) W :=
  errs_of_laid h hgs Tryz.underlying27 errRow Tryz.underlying153 Tryz.underlying155 rfl rfl Tryz.underlying9 errCells strCells
end Go.Proofs.YtaekccgcnlepaaaGreatDoor
