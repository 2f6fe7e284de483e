import Derived.Test.YtggnaalcdekccaaDoorKeyRowsL
import Derived.Test.YtggnaalcdekccaaDoorKeyStart
namespace Go.Proofs.YtggnaalcdekccaaDoor
open Go.ChangeShapes Go.WideShapes Go.ChangeAt Go.RowKit
set_option linter.unusedVariables false
theorem walk_KeyRows (a0 : Option Addr) (len0 cap0 : Nat) (z0 : List (List Int)) (w : World) (w0 : IsRows [.i64, .i64, .i64, .i64, .u32] w a0 len0 cap0 z0) (hL : laidMetH Tryd.prog Rows.keyRowsRow.laid w) :
    Calls Tryd.prog 11 #[.slice a0 len0 cap0] w fun e w' => e = .returned (.bool true) ∧ Below w.heap.size w w' := by
  rw [MakeChecks.laidMetH_plain _ _ _ (by kernel_rfl)] at hL
  obtain ⟨a, b, hK⟩ := (kw_of hL ⟨_, by repeat (first | exact List.Mem.head _ | apply List.Mem.tail)⟩ ⟨_, by repeat (first | exact List.Mem.head _ | apply List.Mem.tail)⟩ (by repeat (first | exact List.Mem.head _ | apply List.Mem.tail)))
  exact krows_any a0 len0 cap0 z0 a b w hK w0
end Go.Proofs.YtggnaalcdekccaaDoor
