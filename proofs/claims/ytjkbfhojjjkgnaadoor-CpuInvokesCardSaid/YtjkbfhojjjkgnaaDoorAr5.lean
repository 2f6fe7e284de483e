/-
  package arena: Copy.
-/
import Derived.Test.YtjkbfhojjjkgnaaDoorArL
namespace Go.Proofs.YtjkbfhojjjkgnaaDoor
open Go.ChangeShapes Go.WideShapes Go.ChangeAt Go.RowKit
set_option linter.unusedVariables false
theorem plc_cells (th : Nat → Bool) (vr : Nat → Int) (n : Nat) : ∀ u ∈ plc th vr n, u.oneCell' = true := by
  induction n with
  | zero => intro u hu; simp [plc] at hu
  | succ n ih =>
    intro u hu
    rcases List.mem_append.1 hu with h | h
    · exact ih u h
    · simp at h
      rcases h with rfl | rfl <;> rfl
end Go.Proofs.YtjkbfhojjjkgnaaDoor
