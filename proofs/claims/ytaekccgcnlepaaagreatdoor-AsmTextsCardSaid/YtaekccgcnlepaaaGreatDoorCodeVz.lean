/-
  turnkeyref1.ValidInstr: of any.
-/
import Derived.Test.YtaekccgcnlepaaaGreatDoorCodeV1
import Derived.Test.YtaekccgcnlepaaaGreatDoorCodeV2
import Derived.Test.YtaekccgcnlepaaaGreatDoorCodeV3
namespace Go.Proofs.YtaekccgcnlepaaaGreatDoor
open Go.ChangeShapes Go.WideShapes Go.ChangeAt Go.RowKit
set_option linter.unusedVariables false
set_option linter.unusedSimpArgs false
set_option maxRecDepth 100000 in
theorem vi_word (op a b c i : Int) (h : ¬ (1 ≤ op ∧ op ≤ 13)) (w : World) : Calls Tryz.prog 38 #[.agg #[.int .i64 op, .int .i64 a, .int .i64 b, .int .i64 c, .int .i64 i]] w fun e w' => e = .returned (.int .i64 111) ∧ Below w.heap.size w w' := by
  have b1 : (op == 1) = false := by rw [beq_eq_false_iff_ne]; omega
  have b2 : (op == 2) = false := by rw [beq_eq_false_iff_ne]; omega
  have b3 : (op == 3) = false := by rw [beq_eq_false_iff_ne]; omega
  have b4 : (op == 4) = false := by rw [beq_eq_false_iff_ne]; omega
  have b5 : (op == 5) = false := by rw [beq_eq_false_iff_ne]; omega
  have b6 : (op == 6) = false := by rw [beq_eq_false_iff_ne]; omega
  have b7 : (op == 7) = false := by rw [beq_eq_false_iff_ne]; omega
  have b8 : (op == 8) = false := by rw [beq_eq_false_iff_ne]; omega
  have b9 : (op == 9) = false := by rw [beq_eq_false_iff_ne]; omega
  have b10 : (op == 10) = false := by rw [beq_eq_false_iff_ne]; omega
  have b11 : (op == 11) = false := by rw [beq_eq_false_iff_ne]; omega
  have b12 : (op == 12) = false := by rw [beq_eq_false_iff_ne]; omega
  have b13 : (op == 13) = false := by rw [beq_eq_false_iff_ne]; omega
  clear h
  go_enter Tryz.func38, Tryz.ntmps38
  go_wp2
  go_ret
  exact ⟨rfl, (Below.refl _ _).alloc (Nat.le_refl _) _⟩
theorem vi_any (op a b c i : Int) (w : World) : Calls Tryz.prog 38 #[.agg #[.int .i64 op, .int .i64 a, .int .i64 b, .int .i64 c, .int .i64 i]] w fun e w' => e = .returned (.int .i64 (codeI op a b c i)) ∧ Below w.heap.size w w' := by
  by_cases h : 1 ≤ op ∧ op ≤ 13
  · obtain rfl | rfl | rfl | rfl | rfl | rfl | rfl | rfl | rfl | rfl | rfl | rfl | rfl : op = 1 ∨ op = 2 ∨ op = 3 ∨ op = 4 ∨ op = 5 ∨ op = 6 ∨ op = 7 ∨ op = 8 ∨ op = 9 ∨ op = 10 ∨ op = 11 ∨ op = 12 ∨ op = 13 := by omega
    · exact vi_1 a b c i w
    · exact vi_2 a b c i w
    · exact vi_3 a b c i w
    · exact vi_4 a b c i w
    · exact vi_5 a b c i w
    · exact vi_6 a b c i w
    · exact vi_7 a b c i w
    · exact vi_8 a b c i w
    · exact vi_9 a b c i w
    · exact vi_10 a b c i w
    · exact vi_11 a b c i w
    · exact vi_12 a b c i w
    · exact vi_13 a b c i w
  · rw [codeI_word h]
    exact vi_word op a b c i h w
theorem vi_is (op a b c i t : Int) (h : Hid (codeI op a b c i = t)) (w : World) : Calls Tryz.prog 38 #[.agg #[.int .i64 op, .int .i64 a, .int .i64 b, .int .i64 c, .int .i64 i]] w fun e w' => e = .returned (.int .i64 t) ∧ Below w.heap.size w w' := by
  rw [← h.out]; exact vi_any op a b c i w
end Go.Proofs.YtaekccgcnlepaaaGreatDoor
