import Derived.Test.YtjkbfhojjjkgnaaDoorKeyval
import Derived.WalkSmall
namespace Go.Proofs.YtjkbfhojjjkgnaaDoor
open Go.ChangeShapes Go.WideShapes Go.ChangeAt Go.RowKit
set_option linter.unusedVariables false
theorem same_is (a0 a1 a2 a3 a4 : Int) (b0 b1 b2 b3 b4 : Int) (t : Bool) (h : Hid (sameB a0 a1 a2 a3 a4 b0 b1 b2 b3 b4 = t)) (w : World) :
    Calls Tryd.prog 24 #[(Value.agg #[.int .i64 a0, .int .i64 a1, .int .i64 a2, .int .i64 a3, .int .u32 a4]), (Value.agg #[.int .i64 b0, .int .i64 b1, .int .i64 b2, .int .i64 b3, .int .u32 b4])] w fun e w' => e = .returned (.bool t) ∧ Below w.heap.size w w' := by
  rw [← h.out]; exact samekey_any a0 a1 a2 a3 a4 b0 b1 b2 b3 b4 w
theorem same_self (a0 a1 a2 a3 a4 : Int) : Hid (sameB a0 a1 a2 a3 a4 a0 a1 a2 a3 a4 = true) := Lib.hid (by simp [sameB])
end Go.Proofs.YtjkbfhojjjkgnaaDoor
