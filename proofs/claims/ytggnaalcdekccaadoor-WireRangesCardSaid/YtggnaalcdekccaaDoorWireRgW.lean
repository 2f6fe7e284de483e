import Derived.Test.YtggnaalcdekccaaDoorWireRg
import Derived.Test.YtggnaalcdekccaaDoorWireW
namespace Go.Proofs.YtggnaalcdekccaaDoor
open Go.ChangeShapes Go.WideShapes Go.ChangeAt Go.RowKit
set_option linter.unusedVariables false
set_option maxRecDepth 100000 in
theorem ranges_big (a0 a1 a2 : Int) (a : Option Addr) (len cap : Nat) (w : World) (hl : 50 < len) (hm : len ≤ 9223372036854775807) :
    Calls Tryd.prog 5 #[.int .i64 a0, .int .i64 a1, .int .i64 a2, .slice a len cap] w fun e w' => e = .returned (.bool true) ∧ Below w.heap.size w w' := by
  go_enter Tryd.func5, Tryd.ntmps5
  go_wp2_with (first | (go_at_call 12; refine (wfirst_any _).mono ?_; rintro e w1 ⟨rfl, hb⟩))
  go_ret
  exact ⟨rfl, hb⟩
theorem ranges_any (a0 a1 a2 : Int) (a : Option Addr) (len cap : Nat) (zs : List Int) (A : Nat → Addr) (w : World) (hA : Sen A w) (r0 : -9223372036854775808 ≤ a0) (r1 : a0 ≤ 9223372036854775807) (h : IsRow .u8 w a len cap zs) :
    Calls Tryd.prog 5 #[.int .i64 a0, .int .i64 a1, .int .i64 a2, .slice a len cap] w fun e w' => e = .returned (.bool true) ∧ Below w.heap.size w w' := by
  obtain ⟨ms, rfl, hs, hlt, h0, hc, hcm⟩ := isrow_src h
  by_cases hl : 50 < ms.length
  · exact ranges_big a0 a1 a2 a ms.length cap w hl (by unfold maxLen at hcm; omega)
  cases a with
  | none =>
    obtain rfl : ms = [] := hs.2.1 rfl
    obtain rfl : cap = 0 := h0 rfl
    by_cases hx : a1 ≤ a0 ∧ a0 ≤ a2
    · exact ranges_none_in A a0 a1 a2 w hA r0 r1 hx.1 hx.2
    · exact ranges_none_out A a0 a1 a2 w hA r0 r1 (by omega)
  | some ad =>
    by_cases hx : a1 ≤ a0 ∧ a0 ≤ a2
    · exact ranges_some_in A a0 a1 a2 ad cap ms w hA r0 r1 hs (by omega) (hlt ad rfl) hx.1 hx.2
    · exact ranges_some_out A a0 a1 a2 ad cap ms w hA r0 r1 hs (by omega) (hlt ad rfl) (by omega)
theorem walk_WireRanges (a0 : Int) (a1 : Int) (a2 : Int) (a3 : Option Addr) (len3 cap3 : Nat) (z3 : List Int) (w : World) (w0 : (Lit.int .i64 a0).wf = true) (w1 : (Lit.int .i64 a1).wf = true) (w2 : (Lit.int .i64 a2).wf = true) (w3 : IsRow .u8 w a3 len3 cap3 z3) (hL : laidMetH Tryd.prog Rows.wireRangesRow.laid w) :
    Calls Tryd.prog 5 #[.int .i64 a0, .int .i64 a1, .int .i64 a2, .slice a3 len3 cap3] w fun e w' => e = .returned (.bool true) ∧ Below w.heap.size w w' := by
  rw [MakeChecks.laidMetH_plain _ _ _ (by kernel_rfl)] at hL
  exact ranges_any a0 a1 a2 a3 len3 cap3 z3 _ w (sen_of hL (by intro n hn; simp only [List.mem_cons, List.not_mem_nil, or_false] at hn; rcases hn with rfl | rfl | rfl | rfl | rfl | rfl | rfl | rfl | rfl | rfl | rfl | rfl <;> exact ⟨_, by repeat (first | exact List.Mem.head _ | apply List.Mem.tail)⟩)) (i64_fit2 w0).1 (i64_fit2 w0).2 w3
end Go.Proofs.YtggnaalcdekccaaDoor
