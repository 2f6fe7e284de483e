/-
  The listed sentinel errors of this seat: their variables' numbers and types.
-/
import Derived.Test.YtncopdhhchmpeaaDoorLaid
namespace Go.Proofs.YtncopdhhchmpeaaDoor
open Go.ChangeShapes Go.WideShapes Go.ChangeAt Go.RowKit
set_option linter.unusedVariables false
theorem errStar : "*" ++ "errors.errorString" = "*errors.errorString" := by decide
theorem errRow (u : TypeId) (h : Tryd.prog.typeName? 3 u = some "*errors.errorString") : u = 202 :=
  typeName_ptr_named (nm := "errors.errorString") (by rw [errStar]; kernel_rfl) (by kernel_rfl) (by decide) u (by rw [errStar]; exact h)
theorem errCells : Tryd.prog.cellsOf 236 = 1 := by kernel_rfl
theorem strCells : Tryd.prog.cellsOf 9 = 1 := by kernel_rfl
theorem gErrEnd : Tryd.prog.globalNamed "turnkey/api.ErrEnd" = some 7 := by kernel_rfl
theorem tErrEnd : (Tryd.prog.globals[7]?).map (·.type) = some 26 := by kernel_rfl
theorem gErrShape : Tryd.prog.globalNamed "turnkey/api.ErrShape" = some 6 := by kernel_rfl
theorem tErrShape : (Tryd.prog.globals[6]?).map (·.type) = some 26 := by kernel_rfl
theorem gErrRange : Tryd.prog.globalNamed "turnkey/api.ErrRange" = some 2 := by kernel_rfl
theorem tErrRange : (Tryd.prog.globals[2]?).map (·.type) = some 26 := by kernel_rfl
theorem gErrMany : Tryd.prog.globalNamed "turnkey/api.ErrMany" = some 3 := by kernel_rfl
theorem tErrMany : (Tryd.prog.globals[3]?).map (·.type) = some 26 := by kernel_rfl
theorem gErrNone : Tryd.prog.globalNamed "turnkey/api.ErrNone" = some 0 := by kernel_rfl
theorem tErrNone : (Tryd.prog.globals[0]?).map (·.type) = some 26 := by kernel_rfl
theorem gErrFull : Tryd.prog.globalNamed "turnkey/api.ErrFull" = some 5 := by kernel_rfl
theorem tErrFull : (Tryd.prog.globals[5]?).map (·.type) = some 26 := by kernel_rfl
theorem gErrLimit : Tryd.prog.globalNamed "turnkey/api.ErrLimit" = some 4 := by kernel_rfl
theorem tErrLimit : (Tryd.prog.globals[4]?).map (·.type) = some 26 := by kernel_rfl
theorem gErrOwn : Tryd.prog.globalNamed "turnkey/api.ErrOwn" = some 1 := by kernel_rfl
theorem tErrOwn : (Tryd.prog.globals[1]?).map (·.type) = some 26 := by kernel_rfl
theorem gErrState : Tryd.prog.globalNamed "turnkey/api.ErrState" = some 8 := by kernel_rfl
theorem tErrState : (Tryd.prog.globals[8]?).map (·.type) = some 26 := by kernel_rfl
theorem gErrRight : Tryd.prog.globalNamed "turnkey/api.ErrRight" = some 9 := by kernel_rfl
theorem tErrRight : (Tryd.prog.globals[9]?).map (·.type) = some 26 := by kernel_rfl
theorem gErrWord : Tryd.prog.globalNamed "turnkey/api.ErrWord" = some 10 := by kernel_rfl
theorem tErrWord : (Tryd.prog.globals[10]?).map (·.type) = some 26 := by kernel_rfl
theorem gErrNumber : Tryd.prog.globalNamed "turnkey/api.ErrNumber" = some 11 := by kernel_rfl
theorem tErrNumber : (Tryd.prog.globals[11]?).map (·.type) = some 26 := by kernel_rfl
/-- The sentinels gs lie in their variables, if each is listed. -/
theorem errs_are {l : List (String × DataW Unit)} {gs : List Nat} {W : World} (h : laidMet Tryd.prog l W)
    (hgs : ∀ g ∈ gs, ∃ n text, (n, DataW.iface "*errors.errorString" (.ptr (.agg [.lit (.string text)]))) ∈ l ∧ Tryd.prog.globalNamed n = some g ∧ (Tryd.prog.globals[g]?).map (·.type) = some 26) :
    Errs 202 gs (atErr W) W :=
  errs_of_laid h hgs Tryd.underlying26 errRow Tryd.underlying202 Tryd.underlying236 rfl rfl Tryd.underlying9 errCells strCells
end Go.Proofs.YtncopdhhchmpeaaDoor
