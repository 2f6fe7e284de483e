import Derived.Test.YtggnaalcdekccabDoorCodeB1
import Derived.Test.YtggnaalcdekccabDoorCodeB2
import Derived.Test.YtggnaalcdekccabDoorCodeLd
namespace Go.Proofs.YtggnaalcdekccabDoor
open Go.ChangeShapes Go.WideShapes Go.ChangeAt Go.RowKit
set_option linter.unusedVariables false
theorem toList_ne {s t : ByteArray} (h : s ≠ t) : (s.toList == t.toList) = false := by
  rw [beq_eq_false_iff_ne]
  intro e
  refine h (ByteArray.ext (Array.toList_inj.1 ?_))
  rwa [ByteArray.toList_eq, ByteArray.toList_eq] at e
theorem partsC_are (v : Int) : ∃ p0 p1 p2 p3 p4, PartsC v p0 p1 p2 p3 p4 := ⟨_, _, _, _, _, rfl, rfl, rfl, rfl, rfl⟩
theorem back_any (k0 k1 k2 k3 k4 : Int) (l0 l1 l2 l3 l4 : Int) (v : Int) (x y : Addr) (w : World) (hA : VC x y w w) (v0 : 0 ≤ v) (v1 : v ≤ 4294967295) : Calls Tryd.prog 4 #[(Value.agg #[.int .i64 k0, .int .i64 k1, .int .i64 k2, .int .i64 k3, .int .i64 k4]), (Value.agg #[.int .i64 l0, .int .i64 l1, .int .i64 l2, .int .i64 l3, .int .i64 l4]), .int .u32 v] w fun e w' => e = .returned (.bool true) ∧ Below w.heap.size w w' := by
  obtain ⟨p0, p1, p2, p3, p4, hp⟩ := partsC_are v
  have hv := wordC_of hp
  cases hk : okB k0 k1 k2 k3 k4 <;> cases hl : okB l0 l1 l2 l3 l4 <;> cases hok : okB p0 p1 p2 p3 p4
  · exact back_nnn k0 k1 k2 k3 k4 l0 l1 l2 l3 l4 v p0 p1 p2 p3 p4 x y w hA v0 v1 (Lib.hid hp) (Lib.hid hk) _ (Lib.hid rfl) (Lib.hid hl) _ (Lib.hid rfl) (Lib.hid hok)
  · exact back_nny k0 k1 k2 k3 k4 l0 l1 l2 l3 l4 v p0 p1 p2 p3 p4 x y w hA v0 v1 (Lib.hid hp) (Lib.hid hk) _ (Lib.hid rfl) (Lib.hid hl) _ (Lib.hid rfl) (Lib.hid hok) (Lib.hid hv)
  · exact back_nyn k0 k1 k2 k3 k4 l0 l1 l2 l3 l4 v p0 p1 p2 p3 p4 x y w hA v0 v1 (Lib.hid hp) (Lib.hid hk) _ (Lib.hid rfl) (Lib.hid hl) _ (Lib.hid rfl) (Lib.hid hok)
  · exact back_nyy k0 k1 k2 k3 k4 l0 l1 l2 l3 l4 v p0 p1 p2 p3 p4 x y w hA v0 v1 (Lib.hid hp) (Lib.hid hk) _ (Lib.hid rfl) (Lib.hid hl) _ (Lib.hid rfl) (Lib.hid hok) (Lib.hid hv)
  · obtain ⟨q, q0, q1⟩ := partsC_of hk
    exact back_ynn k0 k1 k2 k3 k4 l0 l1 l2 l3 l4 v p0 p1 p2 p3 p4 x y w hA v0 v1 (Lib.hid hp) (Lib.hid hk) _ (Lib.hid rfl) q0 q1 (Lib.hid q) (Lib.hid hl) _ (Lib.hid rfl) (Lib.hid hok)
  · obtain ⟨q, q0, q1⟩ := partsC_of hk
    exact back_yny k0 k1 k2 k3 k4 l0 l1 l2 l3 l4 v p0 p1 p2 p3 p4 x y w hA v0 v1 (Lib.hid hp) (Lib.hid hk) _ (Lib.hid rfl) q0 q1 (Lib.hid q) (Lib.hid hl) _ (Lib.hid rfl) (Lib.hid hok) (Lib.hid hv)
  all_goals
    obtain ⟨q, q0, q1⟩ := partsC_of hk
    have hw := wordC_iff hk hl
    have ht := textC_iff hk hl
    cases hm : sameC k0 k1 k2 k3 k4 l0 l1 l2 l3 l4
  · rw [hm] at hw ht
    exact back_yyn_false k0 k1 k2 k3 k4 l0 l1 l2 l3 l4 v p0 p1 p2 p3 p4 x y w hA v0 v1 (Lib.hid hp) (Lib.hid hk) _ (Lib.hid rfl) q0 q1 (Lib.hid q) (Lib.hid hl) _ (Lib.hid rfl) (Lib.hid hok) _ _ (Lib.hid rfl) (Lib.hid rfl) _ (Lib.hid hm) rfl (beq_eq_false_iff_ne.2 (fun e => absurd (hw.1 e) (by decide))) (toList_ne (fun e => absurd (ht.1 e) (by decide)))
  · exact back_yyn_true k0 k1 k2 k3 k4 l0 l1 l2 l3 l4 v p0 p1 p2 p3 p4 x y w hA v0 v1 (Lib.hid hp) (Lib.hid hk) _ (Lib.hid rfl) q0 q1 (Lib.hid q) (Lib.hid hl) _ (Lib.hid rfl) (Lib.hid hok) _ _ (Lib.hid rfl) (Lib.hid rfl) _ (Lib.hid hm) rfl (beq_iff_eq.2 (hw.2 hm)) (by rw [ht.2 hm]; exact beq_self_eq_true _)
  · rw [hm] at hw ht
    exact back_yyy_false k0 k1 k2 k3 k4 l0 l1 l2 l3 l4 v p0 p1 p2 p3 p4 x y w hA v0 v1 (Lib.hid hp) (Lib.hid hk) _ (Lib.hid rfl) q0 q1 (Lib.hid q) (Lib.hid hl) _ (Lib.hid rfl) (Lib.hid hok) (Lib.hid hv) _ _ (Lib.hid rfl) (Lib.hid rfl) _ (Lib.hid hm) rfl (beq_eq_false_iff_ne.2 (fun e => absurd (hw.1 e) (by decide))) (toList_ne (fun e => absurd (ht.1 e) (by decide)))
  · exact back_yyy_true k0 k1 k2 k3 k4 l0 l1 l2 l3 l4 v p0 p1 p2 p3 p4 x y w hA v0 v1 (Lib.hid hp) (Lib.hid hk) _ (Lib.hid rfl) q0 q1 (Lib.hid q) (Lib.hid hl) _ (Lib.hid rfl) (Lib.hid hok) (Lib.hid hv) _ _ (Lib.hid rfl) (Lib.hid rfl) _ (Lib.hid hm) rfl (beq_iff_eq.2 (hw.2 hm)) (by rw [ht.2 hm]; exact beq_self_eq_true _)
theorem walk_CodeBack (x0_0 : Int) (x0_1 : Int) (x0_2 : Int) (x0_3 : Int) (x0_4 : Int) (x1_0 : Int) (x1_1 : Int) (x1_2 : Int) (x1_3 : Int) (x1_4 : Int) (a2 : Int) (w : World) (wx0_0 : (Lit.int .i64 x0_0).wf = true) (wx0_1 : (Lit.int .i64 x0_1).wf = true) (wx0_2 : (Lit.int .i64 x0_2).wf = true) (wx0_3 : (Lit.int .i64 x0_3).wf = true) (wx0_4 : (Lit.int .i64 x0_4).wf = true) (wx1_0 : (Lit.int .i64 x1_0).wf = true) (wx1_1 : (Lit.int .i64 x1_1).wf = true) (wx1_2 : (Lit.int .i64 x1_2).wf = true) (wx1_3 : (Lit.int .i64 x1_3).wf = true) (wx1_4 : (Lit.int .i64 x1_4).wf = true) (w2 : (Lit.int .u32 a2).wf = true) (hL : laidMetH Tryd.prog Rows.codeBackRow.laid w) :
    Calls Tryd.prog 4 #[.agg #[.int .i64 x0_0, .int .i64 x0_1, .int .i64 x0_2, .int .i64 x0_3, .int .i64 x0_4], .agg #[.int .i64 x1_0, .int .i64 x1_1, .int .i64 x1_2, .int .i64 x1_3, .int .i64 x1_4], .int .u32 a2] w fun e w' => e = .returned (.bool true) ∧ Below w.heap.size w w' := by
  rw [MakeChecks.laidMetH_plain _ _ _ (by kernel_rfl)] at hL
  have hC := code_of hL ⟨_, by repeat (first | exact List.Mem.head _ | apply List.Mem.tail)⟩ ⟨_, by repeat (first | exact List.Mem.head _ | apply List.Mem.tail)⟩ (by repeat (first | exact List.Mem.head _ | apply List.Mem.tail))
  have hT := tells_of hL (by repeat (first | exact List.Mem.head _ | apply List.Mem.tail)) (by repeat (first | exact List.Mem.head _ | apply List.Mem.tail)) (by repeat (first | exact List.Mem.head _ | apply List.Mem.tail))
  exact back_any _ _ _ _ _ _ _ _ _ _ _ _ _ w ⟨Below.refl _ _, hC, hT⟩ (u32_fit w2).1 (u32_fit w2).2
end Go.Proofs.YtggnaalcdekccabDoor
