import Derived.Test.YtggnaalcdekccaaDoorKeySw
namespace Go.Proofs.YtggnaalcdekccaaDoor
open Go.ChangeShapes Go.WideShapes Go.ChangeAt Go.RowKit
set_option linter.unusedVariables false
theorem walk_KeySays (x0_0 : Int) (x0_1 : Int) (x0_2 : Int) (x0_3 : Int) (x0_4 : Int) (a1 : Int) (a2 : Int) (w : World) (wx0_0 : (Lit.int .i64 x0_0).wf = true) (wx0_1 : (Lit.int .i64 x0_1).wf = true) (wx0_2 : (Lit.int .i64 x0_2).wf = true) (wx0_3 : (Lit.int .i64 x0_3).wf = true) (wx0_4 : (Lit.int .u32 x0_4).wf = true) (w1 : (Lit.int .u32 a1).wf = true) (w2 : (Lit.int .u32 a2).wf = true) (hL : laidMetH Tryd.prog Rows.keySaysRow.laid w) :
    Calls Tryd.prog 7 #[.agg #[.int .i64 x0_0, .int .i64 x0_1, .int .i64 x0_2, .int .i64 x0_3, .int .u32 x0_4], .int .u32 a1, .int .u32 a2] w fun e w' => e = .returned (.bool true) ∧ Below w.heap.size w w' := by
  rw [MakeChecks.laidMetH_plain _ _ _ (by kernel_rfl)] at hL
  have hT := tx_of hL ⟨_, by repeat (first | exact List.Mem.head _ | apply List.Mem.tail)⟩ ⟨_, by repeat (first | exact List.Mem.head _ | apply List.Mem.tail)⟩ (by repeat (first | exact List.Mem.head _ | apply List.Mem.tail)) (by repeat (first | exact List.Mem.head _ | apply List.Mem.tail))
  have hS := sen_all hL (by
    intro n hn
    simp only [List.mem_cons, List.not_mem_nil, or_false] at hn
    rcases hn with rfl | rfl | rfl | rfl | rfl | rfl | rfl | rfl | rfl | rfl | rfl | rfl
    all_goals exact ⟨_, by repeat (first | exact List.Mem.head _ | apply List.Mem.tail)⟩)
  exact says_any _ _ _ _ _ _ _ _ w ⟨Below.refl _ _, hS, hT⟩ (u32_fit wx0_4).1 (u32_fit wx0_4).2 (i64_fit wx0_0).1 (i64_fit wx0_0).2 (u32_fit w1).1 (u32_fit w1).2 (u32_fit w2).1 (u32_fit w2).2
end Go.Proofs.YtggnaalcdekccaaDoor
