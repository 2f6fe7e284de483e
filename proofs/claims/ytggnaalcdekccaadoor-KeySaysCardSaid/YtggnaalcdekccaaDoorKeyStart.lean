import Derived.Test.YtggnaalcdekccaaDoorKeyBnd
namespace Go.Proofs.YtggnaalcdekccaaDoor
open Go.ChangeShapes Go.WideShapes Go.ChangeAt Go.RowKit
set_option linter.unusedVariables false
theorem gKeyNames : Tryd.prog.globalNamed "turnkey/key.names" = some 2 := by kernel_rfl
theorem gKeyNamesType : (Tryd.prog.globals[2]?).map (·.type) = some 87 := by kernel_rfl
theorem cellsKeyNames : Tryd.prog.cellsOf 87 = 15 := by kernel_rfl
def knL : List (List UInt8) := [[118, 111, 105, 100], [110, 117, 109, 98, 101, 114], [110, 111, 100, 101], [112, 97, 103, 101], [100, 111, 109, 97, 105, 110], [115, 116, 97, 114, 116], [114, 101, 115, 117, 109, 101], [109, 101, 116, 101, 114], [98, 97, 110, 107], [109, 97, 107, 101, 114], [98, 117, 105, 108, 100, 101, 114], [99, 114, 101, 97, 116, 111, 114], [106, 117, 100, 103, 101], [99, 111, 110, 115, 111, 108, 101], [99, 108, 111, 99, 107]]
def KNamesAt (w : World) : Prop := ∀ i, i < 15 → w.cell? ⟨2, i, none⟩ = some (.string ⟨(knL.getD i []).toArray⟩)
theorem knames_of {l : List (String × DataW Unit)} {w : World} (h : laidMet Tryd.prog l w) (hm : ("turnkey/key.names", DataW.agg (knL.map fun s => .lit (.string s))) ∈ l) : KNamesAt w :=
  texts_of_head (l := knL) (rest := []) gKeyNames gKeyNamesType Tryd.underlying87 Tryd.underlying9 strCells cellsKeyNames (laid_mem h hm)
theorem kw_of {l : List (String × DataW Unit)} {w : World} (h : laidMet Tryd.prog l w) (h1 : ∃ t, ("turnkey/api.ErrShape", DataW.iface "*errors.errorString" (.ptr (.agg [.lit (.string t)]))) ∈ l) (h2 : ∃ t, ("turnkey/api.ErrRange", DataW.iface "*errors.errorString" (.ptr (.agg [.lit (.string t)]))) ∈ l)
    (hm : ("turnkey/key.names", DataW.agg (knL.map fun s => .lit (.string s))) ∈ l) : ∃ a b, KW a b w w := by
  obtain ⟨t1, h1⟩ := h1
  obtain ⟨t2, h2⟩ := h2
  have E := errs_are (gs := [1, 0]) h (by
    intro g hg
    simp at hg
    rcases hg with rfl | rfl
    · exact ⟨_, t1, h1, gErrShape, tErrShape⟩
    · exact ⟨_, t2, h2, gErrRange, tErrRange⟩)
  obtain ⟨s1, s2, -⟩ := E.1 1 (by simp)
  obtain ⟨r1, r2, -⟩ := E.1 0 (by simp)
  have hn := knames_of h hm 3 (by decide)
  refine ⟨atErr w 1, atErr w 0, Below.refl _ _, ⟨s1, r1, s2, r2⟩, hn, ?_⟩
  rcases Nat.lt_or_ge 2 w.heap.size with h' | h'
  · exact h'
  · simp [World.cell?, Array.getElem?_eq_none h'] at hn
theorem u32_fit {a : Int} (h : (Lit.int .u32 a).wf = true) : 0 ≤ a ∧ a ≤ 4294967295 := by simpa [Lit.wf, IntKind.min, IntKind.max, IntKind.signed, IntKind.bits] using h
theorem i64_fit {a : Int} (h : (Lit.int .i64 a).wf = true) : -9223372036854775808 ≤ a ∧ a ≤ 9223372036854775807 := by simpa [Lit.wf, IntKind.min, IntKind.max, IntKind.signed, IntKind.bits] using h
theorem walk_KeyBounds (a0 : Int) (a1 : Int) (a2 : Int) (a3 : Int) (w : World) (w0 : (Lit.int .i64 a0).wf = true) (w1 : (Lit.int .i64 a1).wf = true) (w2 : (Lit.int .i64 a2).wf = true) (w3 : (Lit.int .u32 a3).wf = true) (hL : laidMetH Tryd.prog Rows.keyBoundsRow.laid w) :
    Calls Tryd.prog 10 #[.int .i64 a0, .int .i64 a1, .int .i64 a2, .int .u32 a3] w fun e w' => e = .returned (.bool true) ∧ Below w.heap.size w w' := by
  rw [MakeChecks.laidMetH_plain _ _ _ (by kernel_rfl)] at hL
  obtain ⟨a, b, hK⟩ := (kw_of hL ⟨_, by repeat (first | exact List.Mem.head _ | apply List.Mem.tail)⟩ ⟨_, by repeat (first | exact List.Mem.head _ | apply List.Mem.tail)⟩ (by repeat (first | exact List.Mem.head _ | apply List.Mem.tail)))
  exact kb_any a0 a1 a2 a3 a b w hK (u32_fit w3).2
end Go.Proofs.YtggnaalcdekccaaDoor
