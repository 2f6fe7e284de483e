/-
  package node: fits of what may not be; Make; Get.
-/
import Derived.Test.YtncopdhhchmpeaaDoorNd2
namespace Go.Proofs.YtncopdhhchmpeaaDoor
open Go.ChangeShapes Go.WideShapes Go.ChangeAt Go.RowKit
set_option linter.unusedVariables false
/-- What a node of these cells is. -/
def freshV (W : Nat → Nat → Value) (i : Nat) (xs : List Value) : Nat → Nat → Value := updV (updV W i 0 zs80) i 0 xs
theorem freshV_other (W : Nat → Nat → Value) (i : Nat) (xs : List Value) (a b : Nat) (h : a ≠ i) : freshV W i xs a b = W a b := by
  unfold freshV updV
  rw [if_neg (fun e => h e.1), if_neg (fun e => h e.1)]
theorem freshV_in (W : Nat → Nat → Value) (i : Nat) (xs : List Value) (b : Nat) (h : b < xs.length) : some (freshV W i xs i b) = xs[b]? := by
  unfold freshV
  unfold updV
  rw [if_pos ⟨rfl, by omega, by omega⟩]
  simp [List.getD, h]
theorem freshV_out (W : Nat → Nat → Value) (i : Nat) (xs : List Value) (b : Nat) (h : xs.length ≤ b) (hb : b < 80) : freshV W i xs i b = zc b := by
  unfold freshV
  rw [updV, if_neg (by omega), updV, if_pos ⟨rfl, by omega, by rw [zs80_len]; omega⟩]
  simp [List.getD, zs80, hb]
end Go.Proofs.YtncopdhhchmpeaaDoor
