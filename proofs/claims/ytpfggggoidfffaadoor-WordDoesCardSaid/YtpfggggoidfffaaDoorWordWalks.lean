import Derived.Test.YtpfggggoidfffaaDoorWordLaws
namespace Go.Proofs.YtpfggggoidfffaaDoor
open Go.ChangeShapes Go.WideShapes Go.ChangeAt Go.RowKit
set_option linter.unusedVariables false
theorem gNames : Tryd.prog.globalNamed "turnkey/word.names" = some 0 := by kernel_rfl
theorem gNamesType : (Tryd.prog.globals[0]?).map (·.type) = some 31 := by kernel_rfl
theorem cellsNames : Tryd.prog.cellsOf 31 = 12 := by kernel_rfl
theorem cellsString : Tryd.prog.cellsOf 9 = 1 := by kernel_rfl
theorem names_of {w : World} (h : laidMetH Tryd.prog Rows.wordDoesRow.laid w) : NamesAt w :=
  texts_of_head (l := nmL) (rest := []) gNames gNamesType Tryd.underlying31 Tryd.underlying9 cellsString cellsNames (by rw [MakeChecks.laidMetH_plain _ _ _ (by kernel_rfl)] at h; exact h)
theorem fit_of {a : Int} (h : (Lit.int .u32 a).wf = true) : Fit a := by
  have h : 0 ≤ a ∧ a ≤ 4294967295 := by simpa [Lit.wf, IntKind.min, IntKind.max, IntKind.signed, IntKind.bits] using h
  exact ⟨h.1, h.2⟩
theorem walk_WordDoes (a0 : Int) (a1 : Int) (a2 : Int) (w : World) (w0 : (Lit.int .i64 a0).wf = true) (w1 : (Lit.int .u32 a1).wf = true) (w2 : (Lit.int .u32 a2).wf = true) (hL : laidMetH Tryd.prog Rows.wordDoesRow.laid w) :
    Calls Tryd.prog 3 #[.int .i64 a0, .int .u32 a1, .int .u32 a2] w fun e w' => e = .returned (.bool true) ∧ Below w.heap.size w w' :=
  does_law a0 a1 a2 _ _ _ (fit_of w1) (fit_of w2) (Lib.hid rfl) (Lib.hid rfl) (Lib.hid rfl) w (names_of hL)
theorem walk_WordNames (a0 : Int) (a1 : Int) (w : World) (w0 : (Lit.int .i64 a0).wf = true) (w1 : (Lit.int .i64 a1).wf = true) (hL : laidMetH Tryd.prog Rows.wordNamesRow.laid w) :
    Calls Tryd.prog 4 #[.int .i64 a0, .int .i64 a1] w fun e w' => e = .returned (.bool true) ∧ Below w.heap.size w w' :=
  (names_law a0 a1 w (names_of hL)).mono fun e w' ⟨he, hw⟩ => ⟨he, by subst hw; exact Below.refl _ _⟩
end Go.Proofs.YtpfggggoidfffaaDoor
