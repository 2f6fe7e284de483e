/-
  The laws' own same, plain, first; unlike right instructions have unlike texts and words.
-/
import Derived.Test.YtaekccgcnlepaaaGreatDoorCodeT
namespace Go.Proofs.YtaekccgcnlepaaaGreatDoor
open Go.ChangeShapes Go.WideShapes Go.ChangeAt Go.RowKit
set_option linter.unusedVariables false
def sameC (a0 a1 a2 a3 a4 b0 b1 b2 b3 b4 : Int) : Bool := a0 == b0 && (a1 == b1 && (a2 == b2 && (a3 == b3 && a4 == b4)))
theorem same_selfC (k0 k1 k2 k3 k4 : Int) : Hid (sameC k0 k1 k2 k3 k4 k0 k1 k2 k3 k4 = true) := Lib.hid (by simp [sameC])
theorem first_text : textC 1 1 0 0 5 = ⟨#[108, 105, 32, 114, 49, 32, 53]⟩ := by
  have e1 : Lib.decDigits 1 = [49] := Lib.decDigits_one (by decide)
  have e5 : Lib.decDigits 5 = [53] := Lib.decDigits_one (by decide)
  have h1 : tellB 1 (fA.getD 1 0) = ⟨#[32, 114, 49]⟩ := by show (⟨(32 :: 114 :: Lib.decDigits 1).toArray⟩ : ByteArray) = _; rw [e1]
  have h5 : tellB 5 (fI.getD 1 0) = ⟨#[32, 53]⟩ := by show (⟨(32 :: Lib.decDigits 5).toArray⟩ : ByteArray) = _; rw [e5]
  have h0 : tellB 0 (fB.getD 1 0) = ⟨#[]⟩ := rfl
  have hc : tellB 0 (fC.getD 1 0) = ⟨#[]⟩ := rfl
  unfold textC
  rw [if_neg (by decide), show (1 : Int).toNat = 1 by rfl, h1, h5, h0, hc]
  decide +kernel
theorem first_ok : okB 1 1 0 0 5 = true := by decide
theorem zero_parts : PartsC 0 0 0 0 0 0 := by unfold PartsC; decide
theorem zero_no : okB 0 0 0 0 0 = false := by decide
end Go.Proofs.YtaekccgcnlepaaaGreatDoor
