import Derived.Test.YtggnaalcdekccaaDoorKeyUl
import Derived.Test.YtggnaalcdekccaaDoorKeyLd
namespace Go.Proofs.YtggnaalcdekccaaDoor
open Go.ChangeShapes Go.WideShapes Go.ChangeAt Go.RowKit
set_option linter.unusedVariables false
theorem toList_ne {s t : ByteArray} (h : s ≠ t) : (s.toList == t.toList) = false := by
  rw [beq_eq_false_iff_ne]
  intro e
  refine h (ByteArray.ext (Array.toList_inj.1 ?_))
  rwa [ByteArray.toList_eq, ByteArray.toList_eq] at e
theorem unlike_any (k0 k1 k2 k3 k4 : Int) (l0 l1 l2 l3 l4 : Int) (a b : Addr) (w : World) (hT : Tx (errV a) (errV b) w) (g8 : 0 ≤ k4) (g9 : k4 ≤ 4294967295) (g8' : 0 ≤ l4) (g9' : l4 ≤ 4294967295) : Calls Tryd.prog 9 #[(Value.agg #[.int .i64 k0, .int .i64 k1, .int .i64 k2, .int .i64 k3, .int .u32 k4]), (Value.agg #[.int .i64 l0, .int .i64 l1, .int .i64 l2, .int .i64 l3, .int .u32 l4])] w fun e w' => e = .returned (.bool true) ∧ Below w.heap.size w w' := by
  cases hr : rightB k0 k1 k2 k3 k4 <;> cases hs : rightB l0 l1 l2 l3 l4
  · exact unlike_nn k0 k1 k2 k3 k4 l0 l1 l2 l3 l4 a b w hT (Lib.hid hr) (Lib.hid hs)
  · exact unlike_ny k0 k1 k2 k3 k4 l0 l1 l2 l3 l4 a b w hT (Lib.hid hr) (Lib.hid hs) g8' g9' _ _ (Lib.hid rfl) (Lib.hid rfl)
  · exact unlike_yn k0 k1 k2 k3 k4 l0 l1 l2 l3 l4 a b w hT (Lib.hid hr) g8 g9 _ _ (Lib.hid rfl) (Lib.hid rfl) (Lib.hid hs)
  · have hw := words_eq_iff hr hs g8 g9 g8' g9'
    have ht := txB_eq_iff hr hs g8 g8'
    cases hm : sameB k0 k1 k2 k3 k4 l0 l1 l2 l3 l4
    · rw [hm] at hw ht
      have hst := toList_ne (fun e => absurd (ht.1 e) (by decide))
      by_cases hx : packLo k0 k1 k2 = packLo l0 l1 l2
      · have hy : ¬ packHi k3 k4 = packHi l3 l4 := fun e => absurd (hw.1 ⟨hx, e⟩) (by decide)
        exact unlike_yy2 k0 k1 k2 k3 k4 l0 l1 l2 l3 l4 a b w hT (Lib.hid hr) g8 g9 _ _ (Lib.hid rfl) (Lib.hid rfl) (Lib.hid hs) g8' g9' _ _ (Lib.hid rfl) (Lib.hid rfl) _ _ (Lib.hid rfl) (Lib.hid rfl) (Lib.hid hm) (beq_iff_eq.2 hx) (beq_eq_false_iff_ne.2 hy) hst
      · exact unlike_yy1 k0 k1 k2 k3 k4 l0 l1 l2 l3 l4 a b w hT (Lib.hid hr) g8 g9 _ _ (Lib.hid rfl) (Lib.hid rfl) (Lib.hid hs) g8' g9' _ _ (Lib.hid rfl) (Lib.hid rfl) _ _ (Lib.hid rfl) (Lib.hid rfl) (Lib.hid hm) (beq_eq_false_iff_ne.2 hx) hst
    · obtain ⟨hx, hy⟩ := hw.2 hm
      exact unlike_yy3 k0 k1 k2 k3 k4 l0 l1 l2 l3 l4 a b w hT (Lib.hid hr) g8 g9 _ _ (Lib.hid rfl) (Lib.hid rfl) (Lib.hid hs) g8' g9' _ _ (Lib.hid rfl) (Lib.hid rfl) _ _ (Lib.hid rfl) (Lib.hid rfl) (Lib.hid hm) (beq_iff_eq.2 hx) (beq_iff_eq.2 hy) (by rw [ht.2 hm]; exact beq_self_eq_true _)
theorem walk_KeyUnlike (x0_0 : Int) (x0_1 : Int) (x0_2 : Int) (x0_3 : Int) (x0_4 : Int) (x1_0 : Int) (x1_1 : Int) (x1_2 : Int) (x1_3 : Int) (x1_4 : Int) (w : World) (wx0_0 : (Lit.int .i64 x0_0).wf = true) (wx0_1 : (Lit.int .i64 x0_1).wf = true) (wx0_2 : (Lit.int .i64 x0_2).wf = true) (wx0_3 : (Lit.int .i64 x0_3).wf = true) (wx0_4 : (Lit.int .u32 x0_4).wf = true) (wx1_0 : (Lit.int .i64 x1_0).wf = true) (wx1_1 : (Lit.int .i64 x1_1).wf = true) (wx1_2 : (Lit.int .i64 x1_2).wf = true) (wx1_3 : (Lit.int .i64 x1_3).wf = true) (wx1_4 : (Lit.int .u32 x1_4).wf = true) (hL : laidMetH Tryd.prog Rows.keyUnlikeRow.laid w) :
    Calls Tryd.prog 9 #[.agg #[.int .i64 x0_0, .int .i64 x0_1, .int .i64 x0_2, .int .i64 x0_3, .int .u32 x0_4], .agg #[.int .i64 x1_0, .int .i64 x1_1, .int .i64 x1_2, .int .i64 x1_3, .int .u32 x1_4]] w fun e w' => e = .returned (.bool true) ∧ Below w.heap.size w w' := by
  rw [MakeChecks.laidMetH_plain _ _ _ (by kernel_rfl)] at hL
  have hT := tx_of hL ⟨_, by repeat (first | exact List.Mem.head _ | apply List.Mem.tail)⟩ ⟨_, by repeat (first | exact List.Mem.head _ | apply List.Mem.tail)⟩ (by repeat (first | exact List.Mem.head _ | apply List.Mem.tail)) (by repeat (first | exact List.Mem.head _ | apply List.Mem.tail))
  exact unlike_any _ _ _ _ _ _ _ _ _ _ _ _ w hT (u32_fit wx0_4).1 (u32_fit wx0_4).2 (u32_fit wx1_4).1 (u32_fit wx1_4).2
end Go.Proofs.YtggnaalcdekccaaDoor
