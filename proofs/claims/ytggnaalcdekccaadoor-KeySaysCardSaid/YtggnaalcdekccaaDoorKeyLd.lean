/-
  From the rows' conditions to what the texts are made of.
-/
import Derived.Test.YtggnaalcdekccaaDoorKeyStart
import Derived.Test.YtggnaalcdekccaaDoorKeyTt
namespace Go.Proofs.YtggnaalcdekccaaDoor
open Go.ChangeShapes Go.WideShapes Go.ChangeAt Go.RowKit
set_option linter.unusedVariables false
theorem gPow10 : Tryd.prog.globalNamed "internal/strconv.uint64pow10" = some 13 := by kernel_rfl
theorem tPow10 : (Tryd.prog.globals[13]?).map (·.type) = some 103 := by kernel_rfl
theorem cPow10 : Tryd.prog.cellsOf 103 = 20 := by kernel_rfl
theorem cU64 : Tryd.prog.cellsOf 69 = 1 := by kernel_rfl
theorem tab_of {l : List (String × DataW Unit)} {w : World} (h : laidMet Tryd.prog l w) (hm : ("internal/strconv.uint64pow10", Lib.tabData .u64 Lib.pow10Tab) ∈ l) : Lib.TabIs Tryd.prog w "internal/strconv.uint64pow10" .u64 Lib.pow10Tab :=
  Lib.tabIs_of_head (rest := []) gPow10 tPow10 Tryd.underlying103 Tryd.underlying69 cU64 cPow10 (laid_mem h hm)
theorem names_of {l : List (String × DataW Unit)} {w : World} (h : laidMet Tryd.prog l w) (hm : ("turnkey/key.names", DataW.agg (knL.map fun s => .lit (.string s))) ∈ l) : Names w := by
  have hn := knames_of h hm
  refine ⟨?_, hn⟩
  rcases Nat.lt_or_ge 2 w.heap.size with h' | h'
  · exact h'
  · have := hn 3 (by decide)
    simp [World.cell?, Array.getElem?_eq_none h'] at this
theorem tx_of {l : List (String × DataW Unit)} {w : World} (h : laidMet Tryd.prog l w) (h1 : ∃ t, ("turnkey/api.ErrShape", DataW.iface "*errors.errorString" (.ptr (.agg [.lit (.string t)]))) ∈ l) (h2 : ∃ t, ("turnkey/api.ErrRange", DataW.iface "*errors.errorString" (.ptr (.agg [.lit (.string t)]))) ∈ l)
    (hm : ("turnkey/key.names", DataW.agg (knL.map fun s => .lit (.string s))) ∈ l) (hp : ("internal/strconv.uint64pow10", Lib.tabData .u64 Lib.pow10Tab) ∈ l) : Tx (errV (atErr w 1)) (errV (atErr w 0)) w := by
  obtain ⟨t1, h1⟩ := h1
  obtain ⟨t2, h2⟩ := h2
  have E := errs_are (gs := [1, 0]) h (by
    intro g hg
    simp at hg
    rcases hg with rfl | rfl
    · exact ⟨_, t1, h1, gErrShape, tErrShape⟩
    · exact ⟨_, t2, h2, gErrRange, tErrRange⟩)
  obtain ⟨s1, s2, -⟩ := E.1 1 (by simp)
  obtain ⟨r1, r2, -⟩ := E.1 0 (by simp)
  exact ⟨⟨s1, r1, s2, r2⟩, names_of h hm, tab_of h hp⟩
end Go.Proofs.YtggnaalcdekccaaDoor
