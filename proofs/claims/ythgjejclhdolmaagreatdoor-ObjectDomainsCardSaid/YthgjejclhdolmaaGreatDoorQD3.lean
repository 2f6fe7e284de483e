/-
  ValidA, ValidB, ValidC, ValidD, ValidE, ValidZ, Orders, RightMath, Ref7, Ol, Kr, Ok, Kb, Mk2, Kc, Kd, StV, Rs, Rt, Yk, Yl, Ym, Yn, Yo: what ObjectDomains reaches of them.
-/
import Derived.Test.YthgjejclhdolmaaGreatDoorQD2
namespace Go.Proofs.YthgjejclhdolmaaGreatDoor
open Go.ChangeShapes Go.WideShapes Go.ChangeAt Go.RowKit
set_option linter.unusedVariables false
def manyOf (k : Int) : Int := if k = 2 ∨ k = 3 then 256 else if k = 8 then 64 else if k = 4 ∨ k = 5 ∨ k = 6 ∨ k = 7 ∨ k = 9 ∨ k = 10 then 32 else 1
theorem many_any (k : Int) (w : World) : Calls Tryz.prog 15 #[.int .i64 k] w fun e w' => e = .returned (.int .i64 (manyOf k)) ∧ w = w' := by
  by_cases h : k = 2 ∨ k = 3 ∨ k = 4 ∨ k = 5 ∨ k = 6 ∨ k = 7 ∨ k = 8 ∨ k = 9 ∨ k = 10
  · rcases h with rfl | rfl | rfl | rfl | rfl | rfl | rfl | rfl | rfl
    all_goals
      go_enter Tryz.func15, Tryz.ntmps15
      go_wp2
      go_ret
      exact ⟨rfl, rfl⟩
  · have h2 : ¬ k = 2 := by omega
    have h3 : ¬ k = 3 := by omega
    have h4 : ¬ k = 4 := by omega
    have h5 : ¬ k = 5 := by omega
    have h6 : ¬ k = 6 := by omega
    have h7 : ¬ k = 7 := by omega
    have h8 : ¬ k = 8 := by omega
    have h9 : ¬ k = 9 := by omega
    have h10 : ¬ k = 10 := by omega
    have e : manyOf k = 1 := by simp [manyOf, h2, h3, h4, h5, h6, h7, h8, h9, h10]
    rw [e]
    clear h e
    go_enter Tryz.func15, Tryz.ntmps15
    go_wp2
    go_ret
    exact ⟨rfl, rfl⟩
theorem many_is (k m : Int) (h : Hid (manyOf k = m)) (w : World) : Calls Tryz.prog 15 #[.int .i64 k] w fun e w' => e = .returned (.int .i64 m) ∧ w = w' := by
  rw [← h.out]; exact many_any k w
theorem quiet_left {P : Program} {f : FuncId} {args : Array Value} {w : World} {n : Nat} {v : Value}
    (h : Calls P f args (w.drewN n) fun e w' => e = .returned v ∧ w.drewN n = w') : Calls P f args (w.drewN n) fun e w'' => e = .returned v ∧ ∃ m, w'' = w.drewN m :=
  h.mono fun _ _ ⟨he, hm⟩ => ⟨he, n, hm.symm⟩

theorem valid_kind0 (k0 k1 k2 k3 k4 : Int) (h : k0 < 0) (w : World) :
    Calls Tryz.prog 5 #[(Value.agg #[.int .i64 k0, .int .i64 k1, .int .i64 k2, .int .i64 k3, .int .u32 k4])] w fun e w' => e = .returned (.int .i64 102) ∧ Below w.heap.size w w' := by
  go_enter Tryz.func5, Tryz.ntmps5
  go_wp2
  go_ret
  exact ⟨rfl, (Below.refl _ _).alloc (Nat.le_refl _) _⟩
theorem valid_kind1 (k0 k1 k2 k3 k4 : Int) (h : 14 < k0) (w : World) :
    Calls Tryz.prog 5 #[(Value.agg #[.int .i64 k0, .int .i64 k1, .int .i64 k2, .int .i64 k3, .int .u32 k4])] w fun e w' => e = .returned (.int .i64 102) ∧ Below w.heap.size w w' := by
  have e0 : decide (k0 < 0) = false := by rw [decide_eq_false_iff_not]; omega
  go_enter Tryz.func5, Tryz.ntmps5
  go_wp2
  go_ret
  exact ⟨rfl, (Below.refl _ _).alloc (Nat.le_refl _) _⟩
end Go.Proofs.YthgjejclhdolmaaGreatDoor
namespace Go.Proofs.YthgjejclhdolmaaGreatDoor
open Go.ChangeShapes Go.WideShapes Go.ChangeAt Go.RowKit
set_option linter.unusedVariables false
set_option maxHeartbeats 1000000 in
theorem valid_1_ok (k1 k2 k3 k4 : Int) (hm : Hid (manyOf 1 = 1)) (g1 : 0 ≤ k1) (g2 : k1 < 1) (g3 : 0 ≤ k2) (g4 : k2 ≤ 0) (g5 : 0 ≤ k3) (g6 : k3 ≤ 0) (g7 : k4 ≤ 4294967295) (w : World) :
    Calls Tryz.prog 5 #[Value.agg #[.int .i64 1, .int .i64 k1, .int .i64 k2, .int .i64 k3, .int .u32 k4]] w fun e w' => e = .returned (.int .i64 0) ∧ Below w.heap.size w w' := by
  have d0 : decide (k1 < 0) = false := by rw [decide_eq_false_iff_not]; omega
  have d1 : decide (1 ≤ k1) = false := by rw [decide_eq_false_iff_not]; omega
  have d2 : decide (k2 < 0) = false := by rw [decide_eq_false_iff_not]; omega
  have d3 : decide (0 < k2) = false := by rw [decide_eq_false_iff_not]; omega
  have d4 : decide (k3 < 0) = false := by rw [decide_eq_false_iff_not]; omega
  have d5 : decide (0 < k3) = false := by rw [decide_eq_false_iff_not]; omega
  have d6 : decide (4294967295 < k4) = false := by rw [decide_eq_false_iff_not]; omega
  go_enter Tryz.func5, Tryz.ntmps5
  go_wp2_with (first | (go_at_call 15; refine (many_is _ _ hm _).mono ?_; rintro e w' ⟨rfl, rfl⟩))
  go_quiet ((go_at_call 15; exact quiet_left (many_is _ _ hm _)))
  go_wp2
  go_ret
  exact ⟨rfl, below_drewN ((Below.refl _ _).alloc (Nat.le_refl _) _) _⟩
set_option maxHeartbeats 1000000 in
theorem valid_1_b0 (k1 k2 k3 k4 : Int) (hm : Hid (manyOf 1 = 1))  (g : ¬ 0 ≤ k1) (w : World) :
    Calls Tryz.prog 5 #[Value.agg #[.int .i64 1, .int .i64 k1, .int .i64 k2, .int .i64 k3, .int .u32 k4]] w fun e w' => e = .returned (.int .i64 103) ∧ Below w.heap.size w w' := by
  have d0 : decide (k1 < 0) = true := by rw [decide_eq_true_iff]; omega
  go_enter Tryz.func5, Tryz.ntmps5
  go_wp2_with (first | (go_at_call 15; refine (many_is _ _ hm _).mono ?_; rintro e w' ⟨rfl, rfl⟩))
  go_quiet ((go_at_call 15; exact quiet_left (many_is _ _ hm _)))
  go_wp2
  go_ret
  exact ⟨rfl, below_drewN ((Below.refl _ _).alloc (Nat.le_refl _) _) _⟩
set_option maxHeartbeats 1000000 in
theorem valid_1_b1 (k1 k2 k3 k4 : Int) (hm : Hid (manyOf 1 = 1)) (g0 : 0 ≤ k1) (g : ¬ k1 < 1) (w : World) :
    Calls Tryz.prog 5 #[Value.agg #[.int .i64 1, .int .i64 k1, .int .i64 k2, .int .i64 k3, .int .u32 k4]] w fun e w' => e = .returned (.int .i64 103) ∧ Below w.heap.size w w' := by
  have d0 : decide (k1 < 0) = false := by rw [decide_eq_false_iff_not]; omega
  have d1 : decide (1 ≤ k1) = true := by rw [decide_eq_true_iff]; omega
  go_enter Tryz.func5, Tryz.ntmps5
  go_wp2_with (first | (go_at_call 15; refine (many_is _ _ hm _).mono ?_; rintro e w' ⟨rfl, rfl⟩))
  go_quiet ((go_at_call 15; exact quiet_left (many_is _ _ hm _)))
  go_wp2
  go_ret
  exact ⟨rfl, below_drewN ((Below.refl _ _).alloc (Nat.le_refl _) _) _⟩
set_option maxHeartbeats 1000000 in
theorem valid_1_b2 (k1 k2 k3 k4 : Int) (hm : Hid (manyOf 1 = 1)) (g0 : 0 ≤ k1) (g1 : k1 < 1) (g : ¬ 0 ≤ k2) (w : World) :
    Calls Tryz.prog 5 #[Value.agg #[.int .i64 1, .int .i64 k1, .int .i64 k2, .int .i64 k3, .int .u32 k4]] w fun e w' => e = .returned (.int .i64 103) ∧ Below w.heap.size w w' := by
  have d0 : decide (k1 < 0) = false := by rw [decide_eq_false_iff_not]; omega
  have d1 : decide (1 ≤ k1) = false := by rw [decide_eq_false_iff_not]; omega
  have d2 : decide (k2 < 0) = true := by rw [decide_eq_true_iff]; omega
  go_enter Tryz.func5, Tryz.ntmps5
  go_wp2_with (first | (go_at_call 15; refine (many_is _ _ hm _).mono ?_; rintro e w' ⟨rfl, rfl⟩))
  go_quiet ((go_at_call 15; exact quiet_left (many_is _ _ hm _)))
  go_wp2
  go_ret
  exact ⟨rfl, below_drewN ((Below.refl _ _).alloc (Nat.le_refl _) _) _⟩
set_option maxHeartbeats 1000000 in
theorem valid_1_b3 (k1 k2 k3 k4 : Int) (hm : Hid (manyOf 1 = 1)) (g0 : 0 ≤ k1) (g1 : k1 < 1) (g2 : 0 ≤ k2) (g : ¬ k2 ≤ 0) (w : World) :
    Calls Tryz.prog 5 #[Value.agg #[.int .i64 1, .int .i64 k1, .int .i64 k2, .int .i64 k3, .int .u32 k4]] w fun e w' => e = .returned (.int .i64 103) ∧ Below w.heap.size w w' := by
  have d0 : decide (k1 < 0) = false := by rw [decide_eq_false_iff_not]; omega
  have d1 : decide (1 ≤ k1) = false := by rw [decide_eq_false_iff_not]; omega
  have d2 : decide (k2 < 0) = false := by rw [decide_eq_false_iff_not]; omega
  have d3 : decide (0 < k2) = true := by rw [decide_eq_true_iff]; omega
  go_enter Tryz.func5, Tryz.ntmps5
  go_wp2_with (first | (go_at_call 15; refine (many_is _ _ hm _).mono ?_; rintro e w' ⟨rfl, rfl⟩))
  go_quiet ((go_at_call 15; exact quiet_left (many_is _ _ hm _)))
  go_wp2
  go_ret
  exact ⟨rfl, below_drewN ((Below.refl _ _).alloc (Nat.le_refl _) _) _⟩
set_option maxHeartbeats 1000000 in
theorem valid_1_b4 (k1 k2 k3 k4 : Int) (hm : Hid (manyOf 1 = 1)) (g0 : 0 ≤ k1) (g1 : k1 < 1) (g2 : 0 ≤ k2) (g3 : k2 ≤ 0) (g : ¬ 0 ≤ k3) (w : World) :
    Calls Tryz.prog 5 #[Value.agg #[.int .i64 1, .int .i64 k1, .int .i64 k2, .int .i64 k3, .int .u32 k4]] w fun e w' => e = .returned (.int .i64 103) ∧ Below w.heap.size w w' := by
  have d0 : decide (k1 < 0) = false := by rw [decide_eq_false_iff_not]; omega
  have d1 : decide (1 ≤ k1) = false := by rw [decide_eq_false_iff_not]; omega
  have d2 : decide (k2 < 0) = false := by rw [decide_eq_false_iff_not]; omega
  have d3 : decide (0 < k2) = false := by rw [decide_eq_false_iff_not]; omega
  have d4 : decide (k3 < 0) = true := by rw [decide_eq_true_iff]; omega
  go_enter Tryz.func5, Tryz.ntmps5
  go_wp2_with (first | (go_at_call 15; refine (many_is _ _ hm _).mono ?_; rintro e w' ⟨rfl, rfl⟩))
  go_quiet ((go_at_call 15; exact quiet_left (many_is _ _ hm _)))
  go_wp2
  go_ret
  exact ⟨rfl, below_drewN ((Below.refl _ _).alloc (Nat.le_refl _) _) _⟩
set_option maxHeartbeats 1000000 in
theorem valid_1_b5 (k1 k2 k3 k4 : Int) (hm : Hid (manyOf 1 = 1)) (g0 : 0 ≤ k1) (g1 : k1 < 1) (g2 : 0 ≤ k2) (g3 : k2 ≤ 0) (g4 : 0 ≤ k3) (g : ¬ k3 ≤ 0) (w : World) :
    Calls Tryz.prog 5 #[Value.agg #[.int .i64 1, .int .i64 k1, .int .i64 k2, .int .i64 k3, .int .u32 k4]] w fun e w' => e = .returned (.int .i64 103) ∧ Below w.heap.size w w' := by
  have d0 : decide (k1 < 0) = false := by rw [decide_eq_false_iff_not]; omega
  have d1 : decide (1 ≤ k1) = false := by rw [decide_eq_false_iff_not]; omega
  have d2 : decide (k2 < 0) = false := by rw [decide_eq_false_iff_not]; omega
  have d3 : decide (0 < k2) = false := by rw [decide_eq_false_iff_not]; omega
  have d4 : decide (k3 < 0) = false := by rw [decide_eq_false_iff_not]; omega
  have d5 : decide (0 < k3) = true := by rw [decide_eq_true_iff]; omega
  go_enter Tryz.func5, Tryz.ntmps5
  go_wp2_with (first | (go_at_call 15; refine (many_is _ _ hm _).mono ?_; rintro e w' ⟨rfl, rfl⟩))
  go_quiet ((go_at_call 15; exact quiet_left (many_is _ _ hm _)))
  go_wp2
  go_ret
  exact ⟨rfl, below_drewN ((Below.refl _ _).alloc (Nat.le_refl _) _) _⟩
set_option maxHeartbeats 1000000 in
theorem valid_1_b6 (k1 k2 k3 k4 : Int) (hm : Hid (manyOf 1 = 1)) (g0 : 0 ≤ k1) (g1 : k1 < 1) (g2 : 0 ≤ k2) (g3 : k2 ≤ 0) (g4 : 0 ≤ k3) (g5 : k3 ≤ 0) (g : ¬ k4 ≤ 4294967295) (gu : k4 ≤ 4294967295) (w : World) :
    Calls Tryz.prog 5 #[Value.agg #[.int .i64 1, .int .i64 k1, .int .i64 k2, .int .i64 k3, .int .u32 k4]] w fun e w' => e = .returned (.int .i64 103) ∧ Below w.heap.size w w' := by
  omega
set_option maxHeartbeats 1000000 in
theorem valid_2_ok (k1 k2 k3 k4 : Int) (hm : Hid (manyOf 2 = 256)) (g1 : 0 ≤ k1) (g2 : k1 < 256) (g3 : 0 ≤ k2) (g4 : k2 ≤ 1048575) (g5 : 0 ≤ k3) (g6 : k3 ≤ 7) (g7 : k4 ≤ 4) (w : World) :
    Calls Tryz.prog 5 #[Value.agg #[.int .i64 2, .int .i64 k1, .int .i64 k2, .int .i64 k3, .int .u32 k4]] w fun e w' => e = .returned (.int .i64 0) ∧ Below w.heap.size w w' := by
  have d0 : decide (k1 < 0) = false := by rw [decide_eq_false_iff_not]; omega
  have d1 : decide (256 ≤ k1) = false := by rw [decide_eq_false_iff_not]; omega
  have d2 : decide (k2 < 0) = false := by rw [decide_eq_false_iff_not]; omega
  have d3 : decide (1048575 < k2) = false := by rw [decide_eq_false_iff_not]; omega
  have d4 : decide (k3 < 0) = false := by rw [decide_eq_false_iff_not]; omega
  have d5 : decide (7 < k3) = false := by rw [decide_eq_false_iff_not]; omega
  have d6 : decide (4 < k4) = false := by rw [decide_eq_false_iff_not]; omega
  go_enter Tryz.func5, Tryz.ntmps5
  go_wp2_with (first | (go_at_call 15; refine (many_is _ _ hm _).mono ?_; rintro e w' ⟨rfl, rfl⟩))
  go_quiet ((go_at_call 15; exact quiet_left (many_is _ _ hm _)))
  go_wp2
  go_ret
  exact ⟨rfl, below_drewN ((Below.refl _ _).alloc (Nat.le_refl _) _) _⟩
set_option maxHeartbeats 1000000 in
theorem valid_2_b0 (k1 k2 k3 k4 : Int) (hm : Hid (manyOf 2 = 256))  (g : ¬ 0 ≤ k1) (w : World) :
    Calls Tryz.prog 5 #[Value.agg #[.int .i64 2, .int .i64 k1, .int .i64 k2, .int .i64 k3, .int .u32 k4]] w fun e w' => e = .returned (.int .i64 103) ∧ Below w.heap.size w w' := by
  have d0 : decide (k1 < 0) = true := by rw [decide_eq_true_iff]; omega
  go_enter Tryz.func5, Tryz.ntmps5
  go_wp2_with (first | (go_at_call 15; refine (many_is _ _ hm _).mono ?_; rintro e w' ⟨rfl, rfl⟩))
  go_quiet ((go_at_call 15; exact quiet_left (many_is _ _ hm _)))
  go_wp2
  go_ret
  exact ⟨rfl, below_drewN ((Below.refl _ _).alloc (Nat.le_refl _) _) _⟩
set_option maxHeartbeats 1000000 in
theorem valid_2_b1 (k1 k2 k3 k4 : Int) (hm : Hid (manyOf 2 = 256)) (g0 : 0 ≤ k1) (g : ¬ k1 < 256) (w : World) :
    Calls Tryz.prog 5 #[Value.agg #[.int .i64 2, .int .i64 k1, .int .i64 k2, .int .i64 k3, .int .u32 k4]] w fun e w' => e = .returned (.int .i64 103) ∧ Below w.heap.size w w' := by
  have d0 : decide (k1 < 0) = false := by rw [decide_eq_false_iff_not]; omega
  have d1 : decide (256 ≤ k1) = true := by rw [decide_eq_true_iff]; omega
  go_enter Tryz.func5, Tryz.ntmps5
  go_wp2_with (first | (go_at_call 15; refine (many_is _ _ hm _).mono ?_; rintro e w' ⟨rfl, rfl⟩))
  go_quiet ((go_at_call 15; exact quiet_left (many_is _ _ hm _)))
  go_wp2
  go_ret
  exact ⟨rfl, below_drewN ((Below.refl _ _).alloc (Nat.le_refl _) _) _⟩
set_option maxHeartbeats 1000000 in
theorem valid_2_b2 (k1 k2 k3 k4 : Int) (hm : Hid (manyOf 2 = 256)) (g0 : 0 ≤ k1) (g1 : k1 < 256) (g : ¬ 0 ≤ k2) (w : World) :
    Calls Tryz.prog 5 #[Value.agg #[.int .i64 2, .int .i64 k1, .int .i64 k2, .int .i64 k3, .int .u32 k4]] w fun e w' => e = .returned (.int .i64 103) ∧ Below w.heap.size w w' := by
  have d0 : decide (k1 < 0) = false := by rw [decide_eq_false_iff_not]; omega
  have d1 : decide (256 ≤ k1) = false := by rw [decide_eq_false_iff_not]; omega
  have d2 : decide (k2 < 0) = true := by rw [decide_eq_true_iff]; omega
  go_enter Tryz.func5, Tryz.ntmps5
  go_wp2_with (first | (go_at_call 15; refine (many_is _ _ hm _).mono ?_; rintro e w' ⟨rfl, rfl⟩))
  go_quiet ((go_at_call 15; exact quiet_left (many_is _ _ hm _)))
  go_wp2
  go_ret
  exact ⟨rfl, below_drewN ((Below.refl _ _).alloc (Nat.le_refl _) _) _⟩
set_option maxHeartbeats 1000000 in
theorem valid_2_b3 (k1 k2 k3 k4 : Int) (hm : Hid (manyOf 2 = 256)) (g0 : 0 ≤ k1) (g1 : k1 < 256) (g2 : 0 ≤ k2) (g : ¬ k2 ≤ 1048575) (w : World) :
    Calls Tryz.prog 5 #[Value.agg #[.int .i64 2, .int .i64 k1, .int .i64 k2, .int .i64 k3, .int .u32 k4]] w fun e w' => e = .returned (.int .i64 103) ∧ Below w.heap.size w w' := by
  have d0 : decide (k1 < 0) = false := by rw [decide_eq_false_iff_not]; omega
  have d1 : decide (256 ≤ k1) = false := by rw [decide_eq_false_iff_not]; omega
  have d2 : decide (k2 < 0) = false := by rw [decide_eq_false_iff_not]; omega
  have d3 : decide (1048575 < k2) = true := by rw [decide_eq_true_iff]; omega
  go_enter Tryz.func5, Tryz.ntmps5
  go_wp2_with (first | (go_at_call 15; refine (many_is _ _ hm _).mono ?_; rintro e w' ⟨rfl, rfl⟩))
  go_quiet ((go_at_call 15; exact quiet_left (many_is _ _ hm _)))
  go_wp2
  go_ret
  exact ⟨rfl, below_drewN ((Below.refl _ _).alloc (Nat.le_refl _) _) _⟩
set_option maxHeartbeats 1000000 in
theorem valid_2_b4 (k1 k2 k3 k4 : Int) (hm : Hid (manyOf 2 = 256)) (g0 : 0 ≤ k1) (g1 : k1 < 256) (g2 : 0 ≤ k2) (g3 : k2 ≤ 1048575) (g : ¬ 0 ≤ k3) (w : World) :
    Calls Tryz.prog 5 #[Value.agg #[.int .i64 2, .int .i64 k1, .int .i64 k2, .int .i64 k3, .int .u32 k4]] w fun e w' => e = .returned (.int .i64 103) ∧ Below w.heap.size w w' := by
  have d0 : decide (k1 < 0) = false := by rw [decide_eq_false_iff_not]; omega
  have d1 : decide (256 ≤ k1) = false := by rw [decide_eq_false_iff_not]; omega
  have d2 : decide (k2 < 0) = false := by rw [decide_eq_false_iff_not]; omega
  have d3 : decide (1048575 < k2) = false := by rw [decide_eq_false_iff_not]; omega
  have d4 : decide (k3 < 0) = true := by rw [decide_eq_true_iff]; omega
  go_enter Tryz.func5, Tryz.ntmps5
  go_wp2_with (first | (go_at_call 15; refine (many_is _ _ hm _).mono ?_; rintro e w' ⟨rfl, rfl⟩))
  go_quiet ((go_at_call 15; exact quiet_left (many_is _ _ hm _)))
  go_wp2
  go_ret
  exact ⟨rfl, below_drewN ((Below.refl _ _).alloc (Nat.le_refl _) _) _⟩
set_option maxHeartbeats 1000000 in
theorem valid_2_b5 (k1 k2 k3 k4 : Int) (hm : Hid (manyOf 2 = 256)) (g0 : 0 ≤ k1) (g1 : k1 < 256) (g2 : 0 ≤ k2) (g3 : k2 ≤ 1048575) (g4 : 0 ≤ k3) (g : ¬ k3 ≤ 7) (w : World) :
    Calls Tryz.prog 5 #[Value.agg #[.int .i64 2, .int .i64 k1, .int .i64 k2, .int .i64 k3, .int .u32 k4]] w fun e w' => e = .returned (.int .i64 103) ∧ Below w.heap.size w w' := by
  have d0 : decide (k1 < 0) = false := by rw [decide_eq_false_iff_not]; omega
  have d1 : decide (256 ≤ k1) = false := by rw [decide_eq_false_iff_not]; omega
  have d2 : decide (k2 < 0) = false := by rw [decide_eq_false_iff_not]; omega
  have d3 : decide (1048575 < k2) = false := by rw [decide_eq_false_iff_not]; omega
  have d4 : decide (k3 < 0) = false := by rw [decide_eq_false_iff_not]; omega
  have d5 : decide (7 < k3) = true := by rw [decide_eq_true_iff]; omega
  go_enter Tryz.func5, Tryz.ntmps5
  go_wp2_with (first | (go_at_call 15; refine (many_is _ _ hm _).mono ?_; rintro e w' ⟨rfl, rfl⟩))
  go_quiet ((go_at_call 15; exact quiet_left (many_is _ _ hm _)))
  go_wp2
  go_ret
  exact ⟨rfl, below_drewN ((Below.refl _ _).alloc (Nat.le_refl _) _) _⟩
set_option maxHeartbeats 1000000 in
theorem valid_2_b6 (k1 k2 k3 k4 : Int) (hm : Hid (manyOf 2 = 256)) (g0 : 0 ≤ k1) (g1 : k1 < 256) (g2 : 0 ≤ k2) (g3 : k2 ≤ 1048575) (g4 : 0 ≤ k3) (g5 : k3 ≤ 7) (g : ¬ k4 ≤ 4) (w : World) :
    Calls Tryz.prog 5 #[Value.agg #[.int .i64 2, .int .i64 k1, .int .i64 k2, .int .i64 k3, .int .u32 k4]] w fun e w' => e = .returned (.int .i64 103) ∧ Below w.heap.size w w' := by
  have d0 : decide (k1 < 0) = false := by rw [decide_eq_false_iff_not]; omega
  have d1 : decide (256 ≤ k1) = false := by rw [decide_eq_false_iff_not]; omega
  have d2 : decide (k2 < 0) = false := by rw [decide_eq_false_iff_not]; omega
  have d3 : decide (1048575 < k2) = false := by rw [decide_eq_false_iff_not]; omega
  have d4 : decide (k3 < 0) = false := by rw [decide_eq_false_iff_not]; omega
  have d5 : decide (7 < k3) = false := by rw [decide_eq_false_iff_not]; omega
  have d6 : decide (4 < k4) = true := by rw [decide_eq_true_iff]; omega
  go_enter Tryz.func5, Tryz.ntmps5
  go_wp2_with (first | (go_at_call 15; refine (many_is _ _ hm _).mono ?_; rintro e w' ⟨rfl, rfl⟩))
  go_quiet ((go_at_call 15; exact quiet_left (many_is _ _ hm _)))
  go_wp2
  go_ret
  exact ⟨rfl, below_drewN ((Below.refl _ _).alloc (Nat.le_refl _) _) _⟩
end Go.Proofs.YthgjejclhdolmaaGreatDoor
namespace Go.Proofs.YthgjejclhdolmaaGreatDoor
open Go.ChangeShapes Go.WideShapes Go.ChangeAt Go.RowKit
set_option linter.unusedVariables false
set_option maxHeartbeats 1000000 in
theorem valid_3_ok (k1 k2 k3 k4 : Int) (hm : Hid (manyOf 3 = 256)) (g1 : 0 ≤ k1) (g2 : k1 < 256) (g3 : 0 ≤ k2) (g4 : k2 ≤ 1048575) (g5 : 0 ≤ k3) (g6 : k3 ≤ 7) (g7 : k4 ≤ 0) (w : World) :
    Calls Tryz.prog 5 #[Value.agg #[.int .i64 3, .int .i64 k1, .int .i64 k2, .int .i64 k3, .int .u32 k4]] w fun e w' => e = .returned (.int .i64 0) ∧ Below w.heap.size w w' := by
  have d0 : decide (k1 < 0) = false := by rw [decide_eq_false_iff_not]; omega
  have d1 : decide (256 ≤ k1) = false := by rw [decide_eq_false_iff_not]; omega
  have d2 : decide (k2 < 0) = false := by rw [decide_eq_false_iff_not]; omega
  have d3 : decide (1048575 < k2) = false := by rw [decide_eq_false_iff_not]; omega
  have d4 : decide (k3 < 0) = false := by rw [decide_eq_false_iff_not]; omega
  have d5 : decide (7 < k3) = false := by rw [decide_eq_false_iff_not]; omega
  have d6 : decide (0 < k4) = false := by rw [decide_eq_false_iff_not]; omega
  go_enter Tryz.func5, Tryz.ntmps5
  go_wp2_with (first | (go_at_call 15; refine (many_is _ _ hm _).mono ?_; rintro e w' ⟨rfl, rfl⟩))
  go_quiet ((go_at_call 15; exact quiet_left (many_is _ _ hm _)))
  go_wp2
  go_ret
  exact ⟨rfl, below_drewN ((Below.refl _ _).alloc (Nat.le_refl _) _) _⟩
set_option maxHeartbeats 1000000 in
theorem valid_3_b0 (k1 k2 k3 k4 : Int) (hm : Hid (manyOf 3 = 256))  (g : ¬ 0 ≤ k1) (w : World) :
    Calls Tryz.prog 5 #[Value.agg #[.int .i64 3, .int .i64 k1, .int .i64 k2, .int .i64 k3, .int .u32 k4]] w fun e w' => e = .returned (.int .i64 103) ∧ Below w.heap.size w w' := by
  have d0 : decide (k1 < 0) = true := by rw [decide_eq_true_iff]; omega
  go_enter Tryz.func5, Tryz.ntmps5
  go_wp2_with (first | (go_at_call 15; refine (many_is _ _ hm _).mono ?_; rintro e w' ⟨rfl, rfl⟩))
  go_quiet ((go_at_call 15; exact quiet_left (many_is _ _ hm _)))
  go_wp2
  go_ret
  exact ⟨rfl, below_drewN ((Below.refl _ _).alloc (Nat.le_refl _) _) _⟩
set_option maxHeartbeats 1000000 in
theorem valid_3_b1 (k1 k2 k3 k4 : Int) (hm : Hid (manyOf 3 = 256)) (g0 : 0 ≤ k1) (g : ¬ k1 < 256) (w : World) :
    Calls Tryz.prog 5 #[Value.agg #[.int .i64 3, .int .i64 k1, .int .i64 k2, .int .i64 k3, .int .u32 k4]] w fun e w' => e = .returned (.int .i64 103) ∧ Below w.heap.size w w' := by
  have d0 : decide (k1 < 0) = false := by rw [decide_eq_false_iff_not]; omega
  have d1 : decide (256 ≤ k1) = true := by rw [decide_eq_true_iff]; omega
  go_enter Tryz.func5, Tryz.ntmps5
  go_wp2_with (first | (go_at_call 15; refine (many_is _ _ hm _).mono ?_; rintro e w' ⟨rfl, rfl⟩))
  go_quiet ((go_at_call 15; exact quiet_left (many_is _ _ hm _)))
  go_wp2
  go_ret
  exact ⟨rfl, below_drewN ((Below.refl _ _).alloc (Nat.le_refl _) _) _⟩
set_option maxHeartbeats 1000000 in
theorem valid_3_b2 (k1 k2 k3 k4 : Int) (hm : Hid (manyOf 3 = 256)) (g0 : 0 ≤ k1) (g1 : k1 < 256) (g : ¬ 0 ≤ k2) (w : World) :
    Calls Tryz.prog 5 #[Value.agg #[.int .i64 3, .int .i64 k1, .int .i64 k2, .int .i64 k3, .int .u32 k4]] w fun e w' => e = .returned (.int .i64 103) ∧ Below w.heap.size w w' := by
  have d0 : decide (k1 < 0) = false := by rw [decide_eq_false_iff_not]; omega
  have d1 : decide (256 ≤ k1) = false := by rw [decide_eq_false_iff_not]; omega
  have d2 : decide (k2 < 0) = true := by rw [decide_eq_true_iff]; omega
  go_enter Tryz.func5, Tryz.ntmps5
  go_wp2_with (first | (go_at_call 15; refine (many_is _ _ hm _).mono ?_; rintro e w' ⟨rfl, rfl⟩))
  go_quiet ((go_at_call 15; exact quiet_left (many_is _ _ hm _)))
  go_wp2
  go_ret
  exact ⟨rfl, below_drewN ((Below.refl _ _).alloc (Nat.le_refl _) _) _⟩
set_option maxHeartbeats 1000000 in
theorem valid_3_b3 (k1 k2 k3 k4 : Int) (hm : Hid (manyOf 3 = 256)) (g0 : 0 ≤ k1) (g1 : k1 < 256) (g2 : 0 ≤ k2) (g : ¬ k2 ≤ 1048575) (w : World) :
    Calls Tryz.prog 5 #[Value.agg #[.int .i64 3, .int .i64 k1, .int .i64 k2, .int .i64 k3, .int .u32 k4]] w fun e w' => e = .returned (.int .i64 103) ∧ Below w.heap.size w w' := by
  have d0 : decide (k1 < 0) = false := by rw [decide_eq_false_iff_not]; omega
  have d1 : decide (256 ≤ k1) = false := by rw [decide_eq_false_iff_not]; omega
  have d2 : decide (k2 < 0) = false := by rw [decide_eq_false_iff_not]; omega
  have d3 : decide (1048575 < k2) = true := by rw [decide_eq_true_iff]; omega
  go_enter Tryz.func5, Tryz.ntmps5
  go_wp2_with (first | (go_at_call 15; refine (many_is _ _ hm _).mono ?_; rintro e w' ⟨rfl, rfl⟩))
  go_quiet ((go_at_call 15; exact quiet_left (many_is _ _ hm _)))
  go_wp2
  go_ret
  exact ⟨rfl, below_drewN ((Below.refl _ _).alloc (Nat.le_refl _) _) _⟩
set_option maxHeartbeats 1000000 in
theorem valid_3_b4 (k1 k2 k3 k4 : Int) (hm : Hid (manyOf 3 = 256)) (g0 : 0 ≤ k1) (g1 : k1 < 256) (g2 : 0 ≤ k2) (g3 : k2 ≤ 1048575) (g : ¬ 0 ≤ k3) (w : World) :
    Calls Tryz.prog 5 #[Value.agg #[.int .i64 3, .int .i64 k1, .int .i64 k2, .int .i64 k3, .int .u32 k4]] w fun e w' => e = .returned (.int .i64 103) ∧ Below w.heap.size w w' := by
  have d0 : decide (k1 < 0) = false := by rw [decide_eq_false_iff_not]; omega
  have d1 : decide (256 ≤ k1) = false := by rw [decide_eq_false_iff_not]; omega
  have d2 : decide (k2 < 0) = false := by rw [decide_eq_false_iff_not]; omega
  have d3 : decide (1048575 < k2) = false := by rw [decide_eq_false_iff_not]; omega
  have d4 : decide (k3 < 0) = true := by rw [decide_eq_true_iff]; omega
  go_enter Tryz.func5, Tryz.ntmps5
  go_wp2_with (first | (go_at_call 15; refine (many_is _ _ hm _).mono ?_; rintro e w' ⟨rfl, rfl⟩))
  go_quiet ((go_at_call 15; exact quiet_left (many_is _ _ hm _)))
  go_wp2
  go_ret
  exact ⟨rfl, below_drewN ((Below.refl _ _).alloc (Nat.le_refl _) _) _⟩
set_option maxHeartbeats 1000000 in
theorem valid_3_b5 (k1 k2 k3 k4 : Int) (hm : Hid (manyOf 3 = 256)) (g0 : 0 ≤ k1) (g1 : k1 < 256) (g2 : 0 ≤ k2) (g3 : k2 ≤ 1048575) (g4 : 0 ≤ k3) (g : ¬ k3 ≤ 7) (w : World) :
    Calls Tryz.prog 5 #[Value.agg #[.int .i64 3, .int .i64 k1, .int .i64 k2, .int .i64 k3, .int .u32 k4]] w fun e w' => e = .returned (.int .i64 103) ∧ Below w.heap.size w w' := by
  have d0 : decide (k1 < 0) = false := by rw [decide_eq_false_iff_not]; omega
  have d1 : decide (256 ≤ k1) = false := by rw [decide_eq_false_iff_not]; omega
  have d2 : decide (k2 < 0) = false := by rw [decide_eq_false_iff_not]; omega
  have d3 : decide (1048575 < k2) = false := by rw [decide_eq_false_iff_not]; omega
  have d4 : decide (k3 < 0) = false := by rw [decide_eq_false_iff_not]; omega
  have d5 : decide (7 < k3) = true := by rw [decide_eq_true_iff]; omega
  go_enter Tryz.func5, Tryz.ntmps5
  go_wp2_with (first | (go_at_call 15; refine (many_is _ _ hm _).mono ?_; rintro e w' ⟨rfl, rfl⟩))
  go_quiet ((go_at_call 15; exact quiet_left (many_is _ _ hm _)))
  go_wp2
  go_ret
  exact ⟨rfl, below_drewN ((Below.refl _ _).alloc (Nat.le_refl _) _) _⟩
set_option maxHeartbeats 1000000 in
theorem valid_3_b6 (k1 k2 k3 k4 : Int) (hm : Hid (manyOf 3 = 256)) (g0 : 0 ≤ k1) (g1 : k1 < 256) (g2 : 0 ≤ k2) (g3 : k2 ≤ 1048575) (g4 : 0 ≤ k3) (g5 : k3 ≤ 7) (g : ¬ k4 ≤ 0) (w : World) :
    Calls Tryz.prog 5 #[Value.agg #[.int .i64 3, .int .i64 k1, .int .i64 k2, .int .i64 k3, .int .u32 k4]] w fun e w' => e = .returned (.int .i64 103) ∧ Below w.heap.size w w' := by
  have d0 : decide (k1 < 0) = false := by rw [decide_eq_false_iff_not]; omega
  have d1 : decide (256 ≤ k1) = false := by rw [decide_eq_false_iff_not]; omega
  have d2 : decide (k2 < 0) = false := by rw [decide_eq_false_iff_not]; omega
  have d3 : decide (1048575 < k2) = false := by rw [decide_eq_false_iff_not]; omega
  have d4 : decide (k3 < 0) = false := by rw [decide_eq_false_iff_not]; omega
  have d5 : decide (7 < k3) = false := by rw [decide_eq_false_iff_not]; omega
  have d6 : decide (0 < k4) = true := by rw [decide_eq_true_iff]; omega
  go_enter Tryz.func5, Tryz.ntmps5
  go_wp2_with (first | (go_at_call 15; refine (many_is _ _ hm _).mono ?_; rintro e w' ⟨rfl, rfl⟩))
  go_quiet ((go_at_call 15; exact quiet_left (many_is _ _ hm _)))
  go_wp2
  go_ret
  exact ⟨rfl, below_drewN ((Below.refl _ _).alloc (Nat.le_refl _) _) _⟩
set_option maxHeartbeats 1000000 in
theorem valid_5_ok (k1 k2 k3 k4 : Int) (hm : Hid (manyOf 5 = 32)) (g1 : 0 ≤ k1) (g2 : k1 < 32) (g3 : 0 ≤ k2) (g4 : k2 ≤ 1048575) (g5 : 0 ≤ k3) (g6 : k3 ≤ 0) (g7 : k4 ≤ 536870911) (w : World) :
    Calls Tryz.prog 5 #[Value.agg #[.int .i64 5, .int .i64 k1, .int .i64 k2, .int .i64 k3, .int .u32 k4]] w fun e w' => e = .returned (.int .i64 0) ∧ Below w.heap.size w w' := by
  have d0 : decide (k1 < 0) = false := by rw [decide_eq_false_iff_not]; omega
  have d1 : decide (32 ≤ k1) = false := by rw [decide_eq_false_iff_not]; omega
  have d2 : decide (k2 < 0) = false := by rw [decide_eq_false_iff_not]; omega
  have d3 : decide (1048575 < k2) = false := by rw [decide_eq_false_iff_not]; omega
  have d4 : decide (k3 < 0) = false := by rw [decide_eq_false_iff_not]; omega
  have d5 : decide (0 < k3) = false := by rw [decide_eq_false_iff_not]; omega
  have d6 : decide (536870911 < k4) = false := by rw [decide_eq_false_iff_not]; omega
  go_enter Tryz.func5, Tryz.ntmps5
  go_wp2_with (first | (go_at_call 15; refine (many_is _ _ hm _).mono ?_; rintro e w' ⟨rfl, rfl⟩))
  go_quiet ((go_at_call 15; exact quiet_left (many_is _ _ hm _)))
  go_wp2
  go_ret
  exact ⟨rfl, below_drewN ((Below.refl _ _).alloc (Nat.le_refl _) _) _⟩
set_option maxHeartbeats 1000000 in
theorem valid_5_b0 (k1 k2 k3 k4 : Int) (hm : Hid (manyOf 5 = 32))  (g : ¬ 0 ≤ k1) (w : World) :
    Calls Tryz.prog 5 #[Value.agg #[.int .i64 5, .int .i64 k1, .int .i64 k2, .int .i64 k3, .int .u32 k4]] w fun e w' => e = .returned (.int .i64 103) ∧ Below w.heap.size w w' := by
  have d0 : decide (k1 < 0) = true := by rw [decide_eq_true_iff]; omega
  go_enter Tryz.func5, Tryz.ntmps5
  go_wp2_with (first | (go_at_call 15; refine (many_is _ _ hm _).mono ?_; rintro e w' ⟨rfl, rfl⟩))
  go_quiet ((go_at_call 15; exact quiet_left (many_is _ _ hm _)))
  go_wp2
  go_ret
  exact ⟨rfl, below_drewN ((Below.refl _ _).alloc (Nat.le_refl _) _) _⟩
set_option maxHeartbeats 1000000 in
theorem valid_5_b1 (k1 k2 k3 k4 : Int) (hm : Hid (manyOf 5 = 32)) (g0 : 0 ≤ k1) (g : ¬ k1 < 32) (w : World) :
    Calls Tryz.prog 5 #[Value.agg #[.int .i64 5, .int .i64 k1, .int .i64 k2, .int .i64 k3, .int .u32 k4]] w fun e w' => e = .returned (.int .i64 103) ∧ Below w.heap.size w w' := by
  have d0 : decide (k1 < 0) = false := by rw [decide_eq_false_iff_not]; omega
  have d1 : decide (32 ≤ k1) = true := by rw [decide_eq_true_iff]; omega
  go_enter Tryz.func5, Tryz.ntmps5
  go_wp2_with (first | (go_at_call 15; refine (many_is _ _ hm _).mono ?_; rintro e w' ⟨rfl, rfl⟩))
  go_quiet ((go_at_call 15; exact quiet_left (many_is _ _ hm _)))
  go_wp2
  go_ret
  exact ⟨rfl, below_drewN ((Below.refl _ _).alloc (Nat.le_refl _) _) _⟩
set_option maxHeartbeats 1000000 in
theorem valid_5_b2 (k1 k2 k3 k4 : Int) (hm : Hid (manyOf 5 = 32)) (g0 : 0 ≤ k1) (g1 : k1 < 32) (g : ¬ 0 ≤ k2) (w : World) :
    Calls Tryz.prog 5 #[Value.agg #[.int .i64 5, .int .i64 k1, .int .i64 k2, .int .i64 k3, .int .u32 k4]] w fun e w' => e = .returned (.int .i64 103) ∧ Below w.heap.size w w' := by
  have d0 : decide (k1 < 0) = false := by rw [decide_eq_false_iff_not]; omega
  have d1 : decide (32 ≤ k1) = false := by rw [decide_eq_false_iff_not]; omega
  have d2 : decide (k2 < 0) = true := by rw [decide_eq_true_iff]; omega
  go_enter Tryz.func5, Tryz.ntmps5
  go_wp2_with (first | (go_at_call 15; refine (many_is _ _ hm _).mono ?_; rintro e w' ⟨rfl, rfl⟩))
  go_quiet ((go_at_call 15; exact quiet_left (many_is _ _ hm _)))
  go_wp2
  go_ret
  exact ⟨rfl, below_drewN ((Below.refl _ _).alloc (Nat.le_refl _) _) _⟩
set_option maxHeartbeats 1000000 in
theorem valid_5_b3 (k1 k2 k3 k4 : Int) (hm : Hid (manyOf 5 = 32)) (g0 : 0 ≤ k1) (g1 : k1 < 32) (g2 : 0 ≤ k2) (g : ¬ k2 ≤ 1048575) (w : World) :
    Calls Tryz.prog 5 #[Value.agg #[.int .i64 5, .int .i64 k1, .int .i64 k2, .int .i64 k3, .int .u32 k4]] w fun e w' => e = .returned (.int .i64 103) ∧ Below w.heap.size w w' := by
  have d0 : decide (k1 < 0) = false := by rw [decide_eq_false_iff_not]; omega
  have d1 : decide (32 ≤ k1) = false := by rw [decide_eq_false_iff_not]; omega
  have d2 : decide (k2 < 0) = false := by rw [decide_eq_false_iff_not]; omega
  have d3 : decide (1048575 < k2) = true := by rw [decide_eq_true_iff]; omega
  go_enter Tryz.func5, Tryz.ntmps5
  go_wp2_with (first | (go_at_call 15; refine (many_is _ _ hm _).mono ?_; rintro e w' ⟨rfl, rfl⟩))
  go_quiet ((go_at_call 15; exact quiet_left (many_is _ _ hm _)))
  go_wp2
  go_ret
  exact ⟨rfl, below_drewN ((Below.refl _ _).alloc (Nat.le_refl _) _) _⟩
set_option maxHeartbeats 1000000 in
theorem valid_5_b4 (k1 k2 k3 k4 : Int) (hm : Hid (manyOf 5 = 32)) (g0 : 0 ≤ k1) (g1 : k1 < 32) (g2 : 0 ≤ k2) (g3 : k2 ≤ 1048575) (g : ¬ 0 ≤ k3) (w : World) :
    Calls Tryz.prog 5 #[Value.agg #[.int .i64 5, .int .i64 k1, .int .i64 k2, .int .i64 k3, .int .u32 k4]] w fun e w' => e = .returned (.int .i64 103) ∧ Below w.heap.size w w' := by
  have d0 : decide (k1 < 0) = false := by rw [decide_eq_false_iff_not]; omega
  have d1 : decide (32 ≤ k1) = false := by rw [decide_eq_false_iff_not]; omega
  have d2 : decide (k2 < 0) = false := by rw [decide_eq_false_iff_not]; omega
  have d3 : decide (1048575 < k2) = false := by rw [decide_eq_false_iff_not]; omega
  have d4 : decide (k3 < 0) = true := by rw [decide_eq_true_iff]; omega
  go_enter Tryz.func5, Tryz.ntmps5
  go_wp2_with (first | (go_at_call 15; refine (many_is _ _ hm _).mono ?_; rintro e w' ⟨rfl, rfl⟩))
  go_quiet ((go_at_call 15; exact quiet_left (many_is _ _ hm _)))
  go_wp2
  go_ret
  exact ⟨rfl, below_drewN ((Below.refl _ _).alloc (Nat.le_refl _) _) _⟩
set_option maxHeartbeats 1000000 in
theorem valid_5_b5 (k1 k2 k3 k4 : Int) (hm : Hid (manyOf 5 = 32)) (g0 : 0 ≤ k1) (g1 : k1 < 32) (g2 : 0 ≤ k2) (g3 : k2 ≤ 1048575) (g4 : 0 ≤ k3) (g : ¬ k3 ≤ 0) (w : World) :
    Calls Tryz.prog 5 #[Value.agg #[.int .i64 5, .int .i64 k1, .int .i64 k2, .int .i64 k3, .int .u32 k4]] w fun e w' => e = .returned (.int .i64 103) ∧ Below w.heap.size w w' := by
  have d0 : decide (k1 < 0) = false := by rw [decide_eq_false_iff_not]; omega
  have d1 : decide (32 ≤ k1) = false := by rw [decide_eq_false_iff_not]; omega
  have d2 : decide (k2 < 0) = false := by rw [decide_eq_false_iff_not]; omega
  have d3 : decide (1048575 < k2) = false := by rw [decide_eq_false_iff_not]; omega
  have d4 : decide (k3 < 0) = false := by rw [decide_eq_false_iff_not]; omega
  have d5 : decide (0 < k3) = true := by rw [decide_eq_true_iff]; omega
  go_enter Tryz.func5, Tryz.ntmps5
  go_wp2_with (first | (go_at_call 15; refine (many_is _ _ hm _).mono ?_; rintro e w' ⟨rfl, rfl⟩))
  go_quiet ((go_at_call 15; exact quiet_left (many_is _ _ hm _)))
  go_wp2
  go_ret
  exact ⟨rfl, below_drewN ((Below.refl _ _).alloc (Nat.le_refl _) _) _⟩
set_option maxHeartbeats 1000000 in
theorem valid_5_b6 (k1 k2 k3 k4 : Int) (hm : Hid (manyOf 5 = 32)) (g0 : 0 ≤ k1) (g1 : k1 < 32) (g2 : 0 ≤ k2) (g3 : k2 ≤ 1048575) (g4 : 0 ≤ k3) (g5 : k3 ≤ 0) (g : ¬ k4 ≤ 536870911) (w : World) :
    Calls Tryz.prog 5 #[Value.agg #[.int .i64 5, .int .i64 k1, .int .i64 k2, .int .i64 k3, .int .u32 k4]] w fun e w' => e = .returned (.int .i64 103) ∧ Below w.heap.size w w' := by
  have d0 : decide (k1 < 0) = false := by rw [decide_eq_false_iff_not]; omega
  have d1 : decide (32 ≤ k1) = false := by rw [decide_eq_false_iff_not]; omega
  have d2 : decide (k2 < 0) = false := by rw [decide_eq_false_iff_not]; omega
  have d3 : decide (1048575 < k2) = false := by rw [decide_eq_false_iff_not]; omega
  have d4 : decide (k3 < 0) = false := by rw [decide_eq_false_iff_not]; omega
  have d5 : decide (0 < k3) = false := by rw [decide_eq_false_iff_not]; omega
  have d6 : decide (536870911 < k4) = true := by rw [decide_eq_true_iff]; omega
  go_enter Tryz.func5, Tryz.ntmps5
  go_wp2_with (first | (go_at_call 15; refine (many_is _ _ hm _).mono ?_; rintro e w' ⟨rfl, rfl⟩))
  go_quiet ((go_at_call 15; exact quiet_left (many_is _ _ hm _)))
  go_wp2
  go_ret
  exact ⟨rfl, below_drewN ((Below.refl _ _).alloc (Nat.le_refl _) _) _⟩
end Go.Proofs.YthgjejclhdolmaaGreatDoor
namespace Go.Proofs.YthgjejclhdolmaaGreatDoor
open Go.ChangeShapes Go.WideShapes Go.ChangeAt Go.RowKit
set_option linter.unusedVariables false
set_option maxHeartbeats 1000000 in
theorem valid_6_ok (k1 k2 k3 k4 : Int) (hm : Hid (manyOf 6 = 32)) (g1 : 0 ≤ k1) (g2 : k1 < 32) (g3 : 0 ≤ k2) (g4 : k2 ≤ 1048575) (g5 : 0 ≤ k3) (g6 : k3 ≤ 0) (g7 : k4 ≤ 536870911) (w : World) :
    Calls Tryz.prog 5 #[Value.agg #[.int .i64 6, .int .i64 k1, .int .i64 k2, .int .i64 k3, .int .u32 k4]] w fun e w' => e = .returned (.int .i64 0) ∧ Below w.heap.size w w' := by
  have d0 : decide (k1 < 0) = false := by rw [decide_eq_false_iff_not]; omega
  have d1 : decide (32 ≤ k1) = false := by rw [decide_eq_false_iff_not]; omega
  have d2 : decide (k2 < 0) = false := by rw [decide_eq_false_iff_not]; omega
  have d3 : decide (1048575 < k2) = false := by rw [decide_eq_false_iff_not]; omega
  have d4 : decide (k3 < 0) = false := by rw [decide_eq_false_iff_not]; omega
  have d5 : decide (0 < k3) = false := by rw [decide_eq_false_iff_not]; omega
  have d6 : decide (536870911 < k4) = false := by rw [decide_eq_false_iff_not]; omega
  go_enter Tryz.func5, Tryz.ntmps5
  go_wp2_with (first | (go_at_call 15; refine (many_is _ _ hm _).mono ?_; rintro e w' ⟨rfl, rfl⟩))
  go_quiet ((go_at_call 15; exact quiet_left (many_is _ _ hm _)))
  go_wp2
  go_ret
  exact ⟨rfl, below_drewN ((Below.refl _ _).alloc (Nat.le_refl _) _) _⟩
set_option maxHeartbeats 1000000 in
theorem valid_6_b0 (k1 k2 k3 k4 : Int) (hm : Hid (manyOf 6 = 32))  (g : ¬ 0 ≤ k1) (w : World) :
    Calls Tryz.prog 5 #[Value.agg #[.int .i64 6, .int .i64 k1, .int .i64 k2, .int .i64 k3, .int .u32 k4]] w fun e w' => e = .returned (.int .i64 103) ∧ Below w.heap.size w w' := by
  have d0 : decide (k1 < 0) = true := by rw [decide_eq_true_iff]; omega
  go_enter Tryz.func5, Tryz.ntmps5
  go_wp2_with (first | (go_at_call 15; refine (many_is _ _ hm _).mono ?_; rintro e w' ⟨rfl, rfl⟩))
  go_quiet ((go_at_call 15; exact quiet_left (many_is _ _ hm _)))
  go_wp2
  go_ret
  exact ⟨rfl, below_drewN ((Below.refl _ _).alloc (Nat.le_refl _) _) _⟩
set_option maxHeartbeats 1000000 in
theorem valid_6_b1 (k1 k2 k3 k4 : Int) (hm : Hid (manyOf 6 = 32)) (g0 : 0 ≤ k1) (g : ¬ k1 < 32) (w : World) :
    Calls Tryz.prog 5 #[Value.agg #[.int .i64 6, .int .i64 k1, .int .i64 k2, .int .i64 k3, .int .u32 k4]] w fun e w' => e = .returned (.int .i64 103) ∧ Below w.heap.size w w' := by
  have d0 : decide (k1 < 0) = false := by rw [decide_eq_false_iff_not]; omega
  have d1 : decide (32 ≤ k1) = true := by rw [decide_eq_true_iff]; omega
  go_enter Tryz.func5, Tryz.ntmps5
  go_wp2_with (first | (go_at_call 15; refine (many_is _ _ hm _).mono ?_; rintro e w' ⟨rfl, rfl⟩))
  go_quiet ((go_at_call 15; exact quiet_left (many_is _ _ hm _)))
  go_wp2
  go_ret
  exact ⟨rfl, below_drewN ((Below.refl _ _).alloc (Nat.le_refl _) _) _⟩
set_option maxHeartbeats 1000000 in
theorem valid_6_b2 (k1 k2 k3 k4 : Int) (hm : Hid (manyOf 6 = 32)) (g0 : 0 ≤ k1) (g1 : k1 < 32) (g : ¬ 0 ≤ k2) (w : World) :
    Calls Tryz.prog 5 #[Value.agg #[.int .i64 6, .int .i64 k1, .int .i64 k2, .int .i64 k3, .int .u32 k4]] w fun e w' => e = .returned (.int .i64 103) ∧ Below w.heap.size w w' := by
  have d0 : decide (k1 < 0) = false := by rw [decide_eq_false_iff_not]; omega
  have d1 : decide (32 ≤ k1) = false := by rw [decide_eq_false_iff_not]; omega
  have d2 : decide (k2 < 0) = true := by rw [decide_eq_true_iff]; omega
  go_enter Tryz.func5, Tryz.ntmps5
  go_wp2_with (first | (go_at_call 15; refine (many_is _ _ hm _).mono ?_; rintro e w' ⟨rfl, rfl⟩))
  go_quiet ((go_at_call 15; exact quiet_left (many_is _ _ hm _)))
  go_wp2
  go_ret
  exact ⟨rfl, below_drewN ((Below.refl _ _).alloc (Nat.le_refl _) _) _⟩
set_option maxHeartbeats 1000000 in
theorem valid_6_b3 (k1 k2 k3 k4 : Int) (hm : Hid (manyOf 6 = 32)) (g0 : 0 ≤ k1) (g1 : k1 < 32) (g2 : 0 ≤ k2) (g : ¬ k2 ≤ 1048575) (w : World) :
    Calls Tryz.prog 5 #[Value.agg #[.int .i64 6, .int .i64 k1, .int .i64 k2, .int .i64 k3, .int .u32 k4]] w fun e w' => e = .returned (.int .i64 103) ∧ Below w.heap.size w w' := by
  have d0 : decide (k1 < 0) = false := by rw [decide_eq_false_iff_not]; omega
  have d1 : decide (32 ≤ k1) = false := by rw [decide_eq_false_iff_not]; omega
  have d2 : decide (k2 < 0) = false := by rw [decide_eq_false_iff_not]; omega
  have d3 : decide (1048575 < k2) = true := by rw [decide_eq_true_iff]; omega
  go_enter Tryz.func5, Tryz.ntmps5
  go_wp2_with (first | (go_at_call 15; refine (many_is _ _ hm _).mono ?_; rintro e w' ⟨rfl, rfl⟩))
  go_quiet ((go_at_call 15; exact quiet_left (many_is _ _ hm _)))
  go_wp2
  go_ret
  exact ⟨rfl, below_drewN ((Below.refl _ _).alloc (Nat.le_refl _) _) _⟩
set_option maxHeartbeats 1000000 in
theorem valid_6_b4 (k1 k2 k3 k4 : Int) (hm : Hid (manyOf 6 = 32)) (g0 : 0 ≤ k1) (g1 : k1 < 32) (g2 : 0 ≤ k2) (g3 : k2 ≤ 1048575) (g : ¬ 0 ≤ k3) (w : World) :
    Calls Tryz.prog 5 #[Value.agg #[.int .i64 6, .int .i64 k1, .int .i64 k2, .int .i64 k3, .int .u32 k4]] w fun e w' => e = .returned (.int .i64 103) ∧ Below w.heap.size w w' := by
  have d0 : decide (k1 < 0) = false := by rw [decide_eq_false_iff_not]; omega
  have d1 : decide (32 ≤ k1) = false := by rw [decide_eq_false_iff_not]; omega
  have d2 : decide (k2 < 0) = false := by rw [decide_eq_false_iff_not]; omega
  have d3 : decide (1048575 < k2) = false := by rw [decide_eq_false_iff_not]; omega
  have d4 : decide (k3 < 0) = true := by rw [decide_eq_true_iff]; omega
  go_enter Tryz.func5, Tryz.ntmps5
  go_wp2_with (first | (go_at_call 15; refine (many_is _ _ hm _).mono ?_; rintro e w' ⟨rfl, rfl⟩))
  go_quiet ((go_at_call 15; exact quiet_left (many_is _ _ hm _)))
  go_wp2
  go_ret
  exact ⟨rfl, below_drewN ((Below.refl _ _).alloc (Nat.le_refl _) _) _⟩
set_option maxHeartbeats 1000000 in
theorem valid_6_b5 (k1 k2 k3 k4 : Int) (hm : Hid (manyOf 6 = 32)) (g0 : 0 ≤ k1) (g1 : k1 < 32) (g2 : 0 ≤ k2) (g3 : k2 ≤ 1048575) (g4 : 0 ≤ k3) (g : ¬ k3 ≤ 0) (w : World) :
    Calls Tryz.prog 5 #[Value.agg #[.int .i64 6, .int .i64 k1, .int .i64 k2, .int .i64 k3, .int .u32 k4]] w fun e w' => e = .returned (.int .i64 103) ∧ Below w.heap.size w w' := by
  have d0 : decide (k1 < 0) = false := by rw [decide_eq_false_iff_not]; omega
  have d1 : decide (32 ≤ k1) = false := by rw [decide_eq_false_iff_not]; omega
  have d2 : decide (k2 < 0) = false := by rw [decide_eq_false_iff_not]; omega
  have d3 : decide (1048575 < k2) = false := by rw [decide_eq_false_iff_not]; omega
  have d4 : decide (k3 < 0) = false := by rw [decide_eq_false_iff_not]; omega
  have d5 : decide (0 < k3) = true := by rw [decide_eq_true_iff]; omega
  go_enter Tryz.func5, Tryz.ntmps5
  go_wp2_with (first | (go_at_call 15; refine (many_is _ _ hm _).mono ?_; rintro e w' ⟨rfl, rfl⟩))
  go_quiet ((go_at_call 15; exact quiet_left (many_is _ _ hm _)))
  go_wp2
  go_ret
  exact ⟨rfl, below_drewN ((Below.refl _ _).alloc (Nat.le_refl _) _) _⟩
set_option maxHeartbeats 1000000 in
theorem valid_6_b6 (k1 k2 k3 k4 : Int) (hm : Hid (manyOf 6 = 32)) (g0 : 0 ≤ k1) (g1 : k1 < 32) (g2 : 0 ≤ k2) (g3 : k2 ≤ 1048575) (g4 : 0 ≤ k3) (g5 : k3 ≤ 0) (g : ¬ k4 ≤ 536870911) (w : World) :
    Calls Tryz.prog 5 #[Value.agg #[.int .i64 6, .int .i64 k1, .int .i64 k2, .int .i64 k3, .int .u32 k4]] w fun e w' => e = .returned (.int .i64 103) ∧ Below w.heap.size w w' := by
  have d0 : decide (k1 < 0) = false := by rw [decide_eq_false_iff_not]; omega
  have d1 : decide (32 ≤ k1) = false := by rw [decide_eq_false_iff_not]; omega
  have d2 : decide (k2 < 0) = false := by rw [decide_eq_false_iff_not]; omega
  have d3 : decide (1048575 < k2) = false := by rw [decide_eq_false_iff_not]; omega
  have d4 : decide (k3 < 0) = false := by rw [decide_eq_false_iff_not]; omega
  have d5 : decide (0 < k3) = false := by rw [decide_eq_false_iff_not]; omega
  have d6 : decide (536870911 < k4) = true := by rw [decide_eq_true_iff]; omega
  go_enter Tryz.func5, Tryz.ntmps5
  go_wp2_with (first | (go_at_call 15; refine (many_is _ _ hm _).mono ?_; rintro e w' ⟨rfl, rfl⟩))
  go_quiet ((go_at_call 15; exact quiet_left (many_is _ _ hm _)))
  go_wp2
  go_ret
  exact ⟨rfl, below_drewN ((Below.refl _ _).alloc (Nat.le_refl _) _) _⟩
set_option maxHeartbeats 1000000 in
theorem valid_D_ok (k0 k1 k2 k3 k4 m : Int) (h0 : 0 ≤ k0) (h14 : k0 ≤ 14) (h1 : ¬ k0 = 1) (h2 : ¬ k0 = 2) (h3 : ¬ k0 = 3) (h5 : ¬ k0 = 5) (h6 : ¬ k0 = 6) (hm : Hid (manyOf k0 = m)) (hm1 : 1 < m) (g1 : 0 ≤ k1) (g2 : k1 < m) (g3 : 0 ≤ k2) (g4 : k2 ≤ 1048575) (g5 : 0 ≤ k3) (g6 : k3 ≤ 0) (g7 : k4 ≤ 0) (w : World) :
    Calls Tryz.prog 5 #[Value.agg #[.int .i64 k0, .int .i64 k1, .int .i64 k2, .int .i64 k3, .int .u32 k4]] w fun e w' => e = .returned (.int .i64 0) ∧ Below w.heap.size w w' := by
  have e1 : (k0 == 1) = false := by simpa using h1
  have e2 : (k0 == 2) = false := by simpa using h2
  have e3 : (k0 == 3) = false := by simpa using h3
  have e5 : (k0 == 5) = false := by simpa using h5
  have e6 : (k0 == 6) = false := by simpa using h6
  have e0 : decide (k0 < 0) = false := by rw [decide_eq_false_iff_not]; omega
  have e14 : decide (14 < k0) = false := by rw [decide_eq_false_iff_not]; omega
  have d0 : decide (k1 < 0) = false := by rw [decide_eq_false_iff_not]; omega
  have d1 : decide (m ≤ k1) = false := by rw [decide_eq_false_iff_not]; omega
  have d2 : decide (k2 < 0) = false := by rw [decide_eq_false_iff_not]; omega
  have d3 : decide (1048575 < k2) = false := by rw [decide_eq_false_iff_not]; omega
  have d4 : decide (k3 < 0) = false := by rw [decide_eq_false_iff_not]; omega
  have d5 : decide (0 < k3) = false := by rw [decide_eq_false_iff_not]; omega
  have d6 : decide (0 < k4) = false := by rw [decide_eq_false_iff_not]; omega
  go_enter Tryz.func5, Tryz.ntmps5
  go_wp2_with (first | (go_at_call 15; refine (many_is _ _ hm _).mono ?_; rintro e w' ⟨rfl, rfl⟩))
  go_quiet ((go_at_call 15; exact quiet_left (many_is _ _ hm _)))
  go_wp2
  go_ret
  exact ⟨rfl, below_drewN ((Below.refl _ _).alloc (Nat.le_refl _) _) _⟩
set_option maxHeartbeats 1000000 in
theorem valid_D_b0 (k0 k1 k2 k3 k4 m : Int) (h0 : 0 ≤ k0) (h14 : k0 ≤ 14) (h1 : ¬ k0 = 1) (h2 : ¬ k0 = 2) (h3 : ¬ k0 = 3) (h5 : ¬ k0 = 5) (h6 : ¬ k0 = 6) (hm : Hid (manyOf k0 = m)) (hm1 : 1 < m)  (g : ¬ 0 ≤ k1) (w : World) :
    Calls Tryz.prog 5 #[Value.agg #[.int .i64 k0, .int .i64 k1, .int .i64 k2, .int .i64 k3, .int .u32 k4]] w fun e w' => e = .returned (.int .i64 103) ∧ Below w.heap.size w w' := by
  have e1 : (k0 == 1) = false := by simpa using h1
  have e2 : (k0 == 2) = false := by simpa using h2
  have e3 : (k0 == 3) = false := by simpa using h3
  have e5 : (k0 == 5) = false := by simpa using h5
  have e6 : (k0 == 6) = false := by simpa using h6
  have e0 : decide (k0 < 0) = false := by rw [decide_eq_false_iff_not]; omega
  have e14 : decide (14 < k0) = false := by rw [decide_eq_false_iff_not]; omega
  have d0 : decide (k1 < 0) = true := by rw [decide_eq_true_iff]; omega
  go_enter Tryz.func5, Tryz.ntmps5
  go_wp2_with (first | (go_at_call 15; refine (many_is _ _ hm _).mono ?_; rintro e w' ⟨rfl, rfl⟩))
  go_quiet ((go_at_call 15; exact quiet_left (many_is _ _ hm _)))
  go_wp2
  go_ret
  exact ⟨rfl, below_drewN ((Below.refl _ _).alloc (Nat.le_refl _) _) _⟩
set_option maxHeartbeats 1000000 in
theorem valid_D_b1 (k0 k1 k2 k3 k4 m : Int) (h0 : 0 ≤ k0) (h14 : k0 ≤ 14) (h1 : ¬ k0 = 1) (h2 : ¬ k0 = 2) (h3 : ¬ k0 = 3) (h5 : ¬ k0 = 5) (h6 : ¬ k0 = 6) (hm : Hid (manyOf k0 = m)) (hm1 : 1 < m) (g0 : 0 ≤ k1) (g : ¬ k1 < m) (w : World) :
    Calls Tryz.prog 5 #[Value.agg #[.int .i64 k0, .int .i64 k1, .int .i64 k2, .int .i64 k3, .int .u32 k4]] w fun e w' => e = .returned (.int .i64 103) ∧ Below w.heap.size w w' := by
  have e1 : (k0 == 1) = false := by simpa using h1
  have e2 : (k0 == 2) = false := by simpa using h2
  have e3 : (k0 == 3) = false := by simpa using h3
  have e5 : (k0 == 5) = false := by simpa using h5
  have e6 : (k0 == 6) = false := by simpa using h6
  have e0 : decide (k0 < 0) = false := by rw [decide_eq_false_iff_not]; omega
  have e14 : decide (14 < k0) = false := by rw [decide_eq_false_iff_not]; omega
  have d0 : decide (k1 < 0) = false := by rw [decide_eq_false_iff_not]; omega
  have d1 : decide (m ≤ k1) = true := by rw [decide_eq_true_iff]; omega
  go_enter Tryz.func5, Tryz.ntmps5
  go_wp2_with (first | (go_at_call 15; refine (many_is _ _ hm _).mono ?_; rintro e w' ⟨rfl, rfl⟩))
  go_quiet ((go_at_call 15; exact quiet_left (many_is _ _ hm _)))
  go_wp2
  go_ret
  exact ⟨rfl, below_drewN ((Below.refl _ _).alloc (Nat.le_refl _) _) _⟩
set_option maxHeartbeats 1000000 in
theorem valid_D_b2 (k0 k1 k2 k3 k4 m : Int) (h0 : 0 ≤ k0) (h14 : k0 ≤ 14) (h1 : ¬ k0 = 1) (h2 : ¬ k0 = 2) (h3 : ¬ k0 = 3) (h5 : ¬ k0 = 5) (h6 : ¬ k0 = 6) (hm : Hid (manyOf k0 = m)) (hm1 : 1 < m) (g0 : 0 ≤ k1) (g1 : k1 < m) (g : ¬ 0 ≤ k2) (w : World) :
    Calls Tryz.prog 5 #[Value.agg #[.int .i64 k0, .int .i64 k1, .int .i64 k2, .int .i64 k3, .int .u32 k4]] w fun e w' => e = .returned (.int .i64 103) ∧ Below w.heap.size w w' := by
  have e1 : (k0 == 1) = false := by simpa using h1
  have e2 : (k0 == 2) = false := by simpa using h2
  have e3 : (k0 == 3) = false := by simpa using h3
  have e5 : (k0 == 5) = false := by simpa using h5
  have e6 : (k0 == 6) = false := by simpa using h6
  have e0 : decide (k0 < 0) = false := by rw [decide_eq_false_iff_not]; omega
  have e14 : decide (14 < k0) = false := by rw [decide_eq_false_iff_not]; omega
  have d0 : decide (k1 < 0) = false := by rw [decide_eq_false_iff_not]; omega
  have d1 : decide (m ≤ k1) = false := by rw [decide_eq_false_iff_not]; omega
  have d2 : decide (k2 < 0) = true := by rw [decide_eq_true_iff]; omega
  go_enter Tryz.func5, Tryz.ntmps5
  go_wp2_with (first | (go_at_call 15; refine (many_is _ _ hm _).mono ?_; rintro e w' ⟨rfl, rfl⟩))
  go_quiet ((go_at_call 15; exact quiet_left (many_is _ _ hm _)))
  go_wp2
  go_ret
  exact ⟨rfl, below_drewN ((Below.refl _ _).alloc (Nat.le_refl _) _) _⟩
set_option maxHeartbeats 1000000 in
theorem valid_D_b3 (k0 k1 k2 k3 k4 m : Int) (h0 : 0 ≤ k0) (h14 : k0 ≤ 14) (h1 : ¬ k0 = 1) (h2 : ¬ k0 = 2) (h3 : ¬ k0 = 3) (h5 : ¬ k0 = 5) (h6 : ¬ k0 = 6) (hm : Hid (manyOf k0 = m)) (hm1 : 1 < m) (g0 : 0 ≤ k1) (g1 : k1 < m) (g2 : 0 ≤ k2) (g : ¬ k2 ≤ 1048575) (w : World) :
    Calls Tryz.prog 5 #[Value.agg #[.int .i64 k0, .int .i64 k1, .int .i64 k2, .int .i64 k3, .int .u32 k4]] w fun e w' => e = .returned (.int .i64 103) ∧ Below w.heap.size w w' := by
  have e1 : (k0 == 1) = false := by simpa using h1
  have e2 : (k0 == 2) = false := by simpa using h2
  have e3 : (k0 == 3) = false := by simpa using h3
  have e5 : (k0 == 5) = false := by simpa using h5
  have e6 : (k0 == 6) = false := by simpa using h6
  have e0 : decide (k0 < 0) = false := by rw [decide_eq_false_iff_not]; omega
  have e14 : decide (14 < k0) = false := by rw [decide_eq_false_iff_not]; omega
  have d0 : decide (k1 < 0) = false := by rw [decide_eq_false_iff_not]; omega
  have d1 : decide (m ≤ k1) = false := by rw [decide_eq_false_iff_not]; omega
  have d2 : decide (k2 < 0) = false := by rw [decide_eq_false_iff_not]; omega
  have d3 : decide (1048575 < k2) = true := by rw [decide_eq_true_iff]; omega
  go_enter Tryz.func5, Tryz.ntmps5
  go_wp2_with (first | (go_at_call 15; refine (many_is _ _ hm _).mono ?_; rintro e w' ⟨rfl, rfl⟩))
  go_quiet ((go_at_call 15; exact quiet_left (many_is _ _ hm _)))
  go_wp2
  go_ret
  exact ⟨rfl, below_drewN ((Below.refl _ _).alloc (Nat.le_refl _) _) _⟩
set_option maxHeartbeats 1000000 in
theorem valid_D_b4 (k0 k1 k2 k3 k4 m : Int) (h0 : 0 ≤ k0) (h14 : k0 ≤ 14) (h1 : ¬ k0 = 1) (h2 : ¬ k0 = 2) (h3 : ¬ k0 = 3) (h5 : ¬ k0 = 5) (h6 : ¬ k0 = 6) (hm : Hid (manyOf k0 = m)) (hm1 : 1 < m) (g0 : 0 ≤ k1) (g1 : k1 < m) (g2 : 0 ≤ k2) (g3 : k2 ≤ 1048575) (g : ¬ 0 ≤ k3) (w : World) :
    Calls Tryz.prog 5 #[Value.agg #[.int .i64 k0, .int .i64 k1, .int .i64 k2, .int .i64 k3, .int .u32 k4]] w fun e w' => e = .returned (.int .i64 103) ∧ Below w.heap.size w w' := by
  have e1 : (k0 == 1) = false := by simpa using h1
  have e2 : (k0 == 2) = false := by simpa using h2
  have e3 : (k0 == 3) = false := by simpa using h3
  have e5 : (k0 == 5) = false := by simpa using h5
  have e6 : (k0 == 6) = false := by simpa using h6
  have e0 : decide (k0 < 0) = false := by rw [decide_eq_false_iff_not]; omega
  have e14 : decide (14 < k0) = false := by rw [decide_eq_false_iff_not]; omega
  have d0 : decide (k1 < 0) = false := by rw [decide_eq_false_iff_not]; omega
  have d1 : decide (m ≤ k1) = false := by rw [decide_eq_false_iff_not]; omega
  have d2 : decide (k2 < 0) = false := by rw [decide_eq_false_iff_not]; omega
  have d3 : decide (1048575 < k2) = false := by rw [decide_eq_false_iff_not]; omega
  have d4 : decide (k3 < 0) = true := by rw [decide_eq_true_iff]; omega
  go_enter Tryz.func5, Tryz.ntmps5
  go_wp2_with (first | (go_at_call 15; refine (many_is _ _ hm _).mono ?_; rintro e w' ⟨rfl, rfl⟩))
  go_quiet ((go_at_call 15; exact quiet_left (many_is _ _ hm _)))
  go_wp2
  go_ret
  exact ⟨rfl, below_drewN ((Below.refl _ _).alloc (Nat.le_refl _) _) _⟩
set_option maxHeartbeats 1000000 in
theorem valid_D_b5 (k0 k1 k2 k3 k4 m : Int) (h0 : 0 ≤ k0) (h14 : k0 ≤ 14) (h1 : ¬ k0 = 1) (h2 : ¬ k0 = 2) (h3 : ¬ k0 = 3) (h5 : ¬ k0 = 5) (h6 : ¬ k0 = 6) (hm : Hid (manyOf k0 = m)) (hm1 : 1 < m) (g0 : 0 ≤ k1) (g1 : k1 < m) (g2 : 0 ≤ k2) (g3 : k2 ≤ 1048575) (g4 : 0 ≤ k3) (g : ¬ k3 ≤ 0) (w : World) :
    Calls Tryz.prog 5 #[Value.agg #[.int .i64 k0, .int .i64 k1, .int .i64 k2, .int .i64 k3, .int .u32 k4]] w fun e w' => e = .returned (.int .i64 103) ∧ Below w.heap.size w w' := by
  have e1 : (k0 == 1) = false := by simpa using h1
  have e2 : (k0 == 2) = false := by simpa using h2
  have e3 : (k0 == 3) = false := by simpa using h3
  have e5 : (k0 == 5) = false := by simpa using h5
  have e6 : (k0 == 6) = false := by simpa using h6
  have e0 : decide (k0 < 0) = false := by rw [decide_eq_false_iff_not]; omega
  have e14 : decide (14 < k0) = false := by rw [decide_eq_false_iff_not]; omega
  have d0 : decide (k1 < 0) = false := by rw [decide_eq_false_iff_not]; omega
  have d1 : decide (m ≤ k1) = false := by rw [decide_eq_false_iff_not]; omega
  have d2 : decide (k2 < 0) = false := by rw [decide_eq_false_iff_not]; omega
  have d3 : decide (1048575 < k2) = false := by rw [decide_eq_false_iff_not]; omega
  have d4 : decide (k3 < 0) = false := by rw [decide_eq_false_iff_not]; omega
  have d5 : decide (0 < k3) = true := by rw [decide_eq_true_iff]; omega
  go_enter Tryz.func5, Tryz.ntmps5
  go_wp2_with (first | (go_at_call 15; refine (many_is _ _ hm _).mono ?_; rintro e w' ⟨rfl, rfl⟩))
  go_quiet ((go_at_call 15; exact quiet_left (many_is _ _ hm _)))
  go_wp2
  go_ret
  exact ⟨rfl, below_drewN ((Below.refl _ _).alloc (Nat.le_refl _) _) _⟩
set_option maxHeartbeats 1000000 in
theorem valid_D_b6 (k0 k1 k2 k3 k4 m : Int) (h0 : 0 ≤ k0) (h14 : k0 ≤ 14) (h1 : ¬ k0 = 1) (h2 : ¬ k0 = 2) (h3 : ¬ k0 = 3) (h5 : ¬ k0 = 5) (h6 : ¬ k0 = 6) (hm : Hid (manyOf k0 = m)) (hm1 : 1 < m) (g0 : 0 ≤ k1) (g1 : k1 < m) (g2 : 0 ≤ k2) (g3 : k2 ≤ 1048575) (g4 : 0 ≤ k3) (g5 : k3 ≤ 0) (g : ¬ k4 ≤ 0) (w : World) :
    Calls Tryz.prog 5 #[Value.agg #[.int .i64 k0, .int .i64 k1, .int .i64 k2, .int .i64 k3, .int .u32 k4]] w fun e w' => e = .returned (.int .i64 103) ∧ Below w.heap.size w w' := by
  have e1 : (k0 == 1) = false := by simpa using h1
  have e2 : (k0 == 2) = false := by simpa using h2
  have e3 : (k0 == 3) = false := by simpa using h3
  have e5 : (k0 == 5) = false := by simpa using h5
  have e6 : (k0 == 6) = false := by simpa using h6
  have e0 : decide (k0 < 0) = false := by rw [decide_eq_false_iff_not]; omega
  have e14 : decide (14 < k0) = false := by rw [decide_eq_false_iff_not]; omega
  have d0 : decide (k1 < 0) = false := by rw [decide_eq_false_iff_not]; omega
  have d1 : decide (m ≤ k1) = false := by rw [decide_eq_false_iff_not]; omega
  have d2 : decide (k2 < 0) = false := by rw [decide_eq_false_iff_not]; omega
  have d3 : decide (1048575 < k2) = false := by rw [decide_eq_false_iff_not]; omega
  have d4 : decide (k3 < 0) = false := by rw [decide_eq_false_iff_not]; omega
  have d5 : decide (0 < k3) = false := by rw [decide_eq_false_iff_not]; omega
  have d6 : decide (0 < k4) = true := by rw [decide_eq_true_iff]; omega
  go_enter Tryz.func5, Tryz.ntmps5
  go_wp2_with (first | (go_at_call 15; refine (many_is _ _ hm _).mono ?_; rintro e w' ⟨rfl, rfl⟩))
  go_quiet ((go_at_call 15; exact quiet_left (many_is _ _ hm _)))
  go_wp2
  go_ret
  exact ⟨rfl, below_drewN ((Below.refl _ _).alloc (Nat.le_refl _) _) _⟩
end Go.Proofs.YthgjejclhdolmaaGreatDoor
namespace Go.Proofs.YthgjejclhdolmaaGreatDoor
open Go.ChangeShapes Go.WideShapes Go.ChangeAt Go.RowKit
set_option linter.unusedVariables false
set_option maxHeartbeats 1000000 in
theorem valid_F_ok (k0 k1 k2 k3 k4 : Int) (h0 : 0 ≤ k0) (h14 : k0 ≤ 14) (h1 : ¬ k0 = 1) (h2 : ¬ k0 = 2) (h3 : ¬ k0 = 3) (h5 : ¬ k0 = 5) (h6 : ¬ k0 = 6) (hm : Hid (manyOf k0 = 1)) (g1 : 0 ≤ k1) (g2 : k1 < 1) (g3 : 0 ≤ k2) (g4 : k2 ≤ 0) (g5 : 0 ≤ k3) (g6 : k3 ≤ 0) (g7 : k4 ≤ 0) (w : World) :
    Calls Tryz.prog 5 #[Value.agg #[.int .i64 k0, .int .i64 k1, .int .i64 k2, .int .i64 k3, .int .u32 k4]] w fun e w' => e = .returned (.int .i64 0) ∧ Below w.heap.size w w' := by
  have e1 : (k0 == 1) = false := by simpa using h1
  have e2 : (k0 == 2) = false := by simpa using h2
  have e3 : (k0 == 3) = false := by simpa using h3
  have e5 : (k0 == 5) = false := by simpa using h5
  have e6 : (k0 == 6) = false := by simpa using h6
  have e0 : decide (k0 < 0) = false := by rw [decide_eq_false_iff_not]; omega
  have e14 : decide (14 < k0) = false := by rw [decide_eq_false_iff_not]; omega
  have d0 : decide (k1 < 0) = false := by rw [decide_eq_false_iff_not]; omega
  have d1 : decide (1 ≤ k1) = false := by rw [decide_eq_false_iff_not]; omega
  have d2 : decide (k2 < 0) = false := by rw [decide_eq_false_iff_not]; omega
  have d3 : decide (0 < k2) = false := by rw [decide_eq_false_iff_not]; omega
  have d4 : decide (k3 < 0) = false := by rw [decide_eq_false_iff_not]; omega
  have d5 : decide (0 < k3) = false := by rw [decide_eq_false_iff_not]; omega
  have d6 : decide (0 < k4) = false := by rw [decide_eq_false_iff_not]; omega
  go_enter Tryz.func5, Tryz.ntmps5
  go_wp2_with (first | (go_at_call 15; refine (many_is _ _ hm _).mono ?_; rintro e w' ⟨rfl, rfl⟩))
  go_quiet ((go_at_call 15; exact quiet_left (many_is _ _ hm _)))
  go_wp2
  go_ret
  exact ⟨rfl, below_drewN ((Below.refl _ _).alloc (Nat.le_refl _) _) _⟩
set_option maxHeartbeats 1000000 in
theorem valid_F_b0 (k0 k1 k2 k3 k4 : Int) (h0 : 0 ≤ k0) (h14 : k0 ≤ 14) (h1 : ¬ k0 = 1) (h2 : ¬ k0 = 2) (h3 : ¬ k0 = 3) (h5 : ¬ k0 = 5) (h6 : ¬ k0 = 6) (hm : Hid (manyOf k0 = 1))  (g : ¬ 0 ≤ k1) (w : World) :
    Calls Tryz.prog 5 #[Value.agg #[.int .i64 k0, .int .i64 k1, .int .i64 k2, .int .i64 k3, .int .u32 k4]] w fun e w' => e = .returned (.int .i64 103) ∧ Below w.heap.size w w' := by
  have e1 : (k0 == 1) = false := by simpa using h1
  have e2 : (k0 == 2) = false := by simpa using h2
  have e3 : (k0 == 3) = false := by simpa using h3
  have e5 : (k0 == 5) = false := by simpa using h5
  have e6 : (k0 == 6) = false := by simpa using h6
  have e0 : decide (k0 < 0) = false := by rw [decide_eq_false_iff_not]; omega
  have e14 : decide (14 < k0) = false := by rw [decide_eq_false_iff_not]; omega
  have d0 : decide (k1 < 0) = true := by rw [decide_eq_true_iff]; omega
  go_enter Tryz.func5, Tryz.ntmps5
  go_wp2_with (first | (go_at_call 15; refine (many_is _ _ hm _).mono ?_; rintro e w' ⟨rfl, rfl⟩))
  go_quiet ((go_at_call 15; exact quiet_left (many_is _ _ hm _)))
  go_wp2
  go_ret
  exact ⟨rfl, below_drewN ((Below.refl _ _).alloc (Nat.le_refl _) _) _⟩
set_option maxHeartbeats 1000000 in
theorem valid_F_b1 (k0 k1 k2 k3 k4 : Int) (h0 : 0 ≤ k0) (h14 : k0 ≤ 14) (h1 : ¬ k0 = 1) (h2 : ¬ k0 = 2) (h3 : ¬ k0 = 3) (h5 : ¬ k0 = 5) (h6 : ¬ k0 = 6) (hm : Hid (manyOf k0 = 1)) (g0 : 0 ≤ k1) (g : ¬ k1 < 1) (w : World) :
    Calls Tryz.prog 5 #[Value.agg #[.int .i64 k0, .int .i64 k1, .int .i64 k2, .int .i64 k3, .int .u32 k4]] w fun e w' => e = .returned (.int .i64 103) ∧ Below w.heap.size w w' := by
  have e1 : (k0 == 1) = false := by simpa using h1
  have e2 : (k0 == 2) = false := by simpa using h2
  have e3 : (k0 == 3) = false := by simpa using h3
  have e5 : (k0 == 5) = false := by simpa using h5
  have e6 : (k0 == 6) = false := by simpa using h6
  have e0 : decide (k0 < 0) = false := by rw [decide_eq_false_iff_not]; omega
  have e14 : decide (14 < k0) = false := by rw [decide_eq_false_iff_not]; omega
  have d0 : decide (k1 < 0) = false := by rw [decide_eq_false_iff_not]; omega
  have d1 : decide (1 ≤ k1) = true := by rw [decide_eq_true_iff]; omega
  go_enter Tryz.func5, Tryz.ntmps5
  go_wp2_with (first | (go_at_call 15; refine (many_is _ _ hm _).mono ?_; rintro e w' ⟨rfl, rfl⟩))
  go_quiet ((go_at_call 15; exact quiet_left (many_is _ _ hm _)))
  go_wp2
  go_ret
  exact ⟨rfl, below_drewN ((Below.refl _ _).alloc (Nat.le_refl _) _) _⟩
set_option maxHeartbeats 1000000 in
theorem valid_F_b2 (k0 k1 k2 k3 k4 : Int) (h0 : 0 ≤ k0) (h14 : k0 ≤ 14) (h1 : ¬ k0 = 1) (h2 : ¬ k0 = 2) (h3 : ¬ k0 = 3) (h5 : ¬ k0 = 5) (h6 : ¬ k0 = 6) (hm : Hid (manyOf k0 = 1)) (g0 : 0 ≤ k1) (g1 : k1 < 1) (g : ¬ 0 ≤ k2) (w : World) :
    Calls Tryz.prog 5 #[Value.agg #[.int .i64 k0, .int .i64 k1, .int .i64 k2, .int .i64 k3, .int .u32 k4]] w fun e w' => e = .returned (.int .i64 103) ∧ Below w.heap.size w w' := by
  have e1 : (k0 == 1) = false := by simpa using h1
  have e2 : (k0 == 2) = false := by simpa using h2
  have e3 : (k0 == 3) = false := by simpa using h3
  have e5 : (k0 == 5) = false := by simpa using h5
  have e6 : (k0 == 6) = false := by simpa using h6
  have e0 : decide (k0 < 0) = false := by rw [decide_eq_false_iff_not]; omega
  have e14 : decide (14 < k0) = false := by rw [decide_eq_false_iff_not]; omega
  have d0 : decide (k1 < 0) = false := by rw [decide_eq_false_iff_not]; omega
  have d1 : decide (1 ≤ k1) = false := by rw [decide_eq_false_iff_not]; omega
  have d2 : decide (k2 < 0) = true := by rw [decide_eq_true_iff]; omega
  go_enter Tryz.func5, Tryz.ntmps5
  go_wp2_with (first | (go_at_call 15; refine (many_is _ _ hm _).mono ?_; rintro e w' ⟨rfl, rfl⟩))
  go_quiet ((go_at_call 15; exact quiet_left (many_is _ _ hm _)))
  go_wp2
  go_ret
  exact ⟨rfl, below_drewN ((Below.refl _ _).alloc (Nat.le_refl _) _) _⟩
set_option maxHeartbeats 1000000 in
theorem valid_F_b3 (k0 k1 k2 k3 k4 : Int) (h0 : 0 ≤ k0) (h14 : k0 ≤ 14) (h1 : ¬ k0 = 1) (h2 : ¬ k0 = 2) (h3 : ¬ k0 = 3) (h5 : ¬ k0 = 5) (h6 : ¬ k0 = 6) (hm : Hid (manyOf k0 = 1)) (g0 : 0 ≤ k1) (g1 : k1 < 1) (g2 : 0 ≤ k2) (g : ¬ k2 ≤ 0) (w : World) :
    Calls Tryz.prog 5 #[Value.agg #[.int .i64 k0, .int .i64 k1, .int .i64 k2, .int .i64 k3, .int .u32 k4]] w fun e w' => e = .returned (.int .i64 103) ∧ Below w.heap.size w w' := by
  have e1 : (k0 == 1) = false := by simpa using h1
  have e2 : (k0 == 2) = false := by simpa using h2
  have e3 : (k0 == 3) = false := by simpa using h3
  have e5 : (k0 == 5) = false := by simpa using h5
  have e6 : (k0 == 6) = false := by simpa using h6
  have e0 : decide (k0 < 0) = false := by rw [decide_eq_false_iff_not]; omega
  have e14 : decide (14 < k0) = false := by rw [decide_eq_false_iff_not]; omega
  have d0 : decide (k1 < 0) = false := by rw [decide_eq_false_iff_not]; omega
  have d1 : decide (1 ≤ k1) = false := by rw [decide_eq_false_iff_not]; omega
  have d2 : decide (k2 < 0) = false := by rw [decide_eq_false_iff_not]; omega
  have d3 : decide (0 < k2) = true := by rw [decide_eq_true_iff]; omega
  go_enter Tryz.func5, Tryz.ntmps5
  go_wp2_with (first | (go_at_call 15; refine (many_is _ _ hm _).mono ?_; rintro e w' ⟨rfl, rfl⟩))
  go_quiet ((go_at_call 15; exact quiet_left (many_is _ _ hm _)))
  go_wp2
  go_ret
  exact ⟨rfl, below_drewN ((Below.refl _ _).alloc (Nat.le_refl _) _) _⟩
set_option maxHeartbeats 1000000 in
theorem valid_F_b4 (k0 k1 k2 k3 k4 : Int) (h0 : 0 ≤ k0) (h14 : k0 ≤ 14) (h1 : ¬ k0 = 1) (h2 : ¬ k0 = 2) (h3 : ¬ k0 = 3) (h5 : ¬ k0 = 5) (h6 : ¬ k0 = 6) (hm : Hid (manyOf k0 = 1)) (g0 : 0 ≤ k1) (g1 : k1 < 1) (g2 : 0 ≤ k2) (g3 : k2 ≤ 0) (g : ¬ 0 ≤ k3) (w : World) :
    Calls Tryz.prog 5 #[Value.agg #[.int .i64 k0, .int .i64 k1, .int .i64 k2, .int .i64 k3, .int .u32 k4]] w fun e w' => e = .returned (.int .i64 103) ∧ Below w.heap.size w w' := by
  have e1 : (k0 == 1) = false := by simpa using h1
  have e2 : (k0 == 2) = false := by simpa using h2
  have e3 : (k0 == 3) = false := by simpa using h3
  have e5 : (k0 == 5) = false := by simpa using h5
  have e6 : (k0 == 6) = false := by simpa using h6
  have e0 : decide (k0 < 0) = false := by rw [decide_eq_false_iff_not]; omega
  have e14 : decide (14 < k0) = false := by rw [decide_eq_false_iff_not]; omega
  have d0 : decide (k1 < 0) = false := by rw [decide_eq_false_iff_not]; omega
  have d1 : decide (1 ≤ k1) = false := by rw [decide_eq_false_iff_not]; omega
  have d2 : decide (k2 < 0) = false := by rw [decide_eq_false_iff_not]; omega
  have d3 : decide (0 < k2) = false := by rw [decide_eq_false_iff_not]; omega
  have d4 : decide (k3 < 0) = true := by rw [decide_eq_true_iff]; omega
  go_enter Tryz.func5, Tryz.ntmps5
  go_wp2_with (first | (go_at_call 15; refine (many_is _ _ hm _).mono ?_; rintro e w' ⟨rfl, rfl⟩))
  go_quiet ((go_at_call 15; exact quiet_left (many_is _ _ hm _)))
  go_wp2
  go_ret
  exact ⟨rfl, below_drewN ((Below.refl _ _).alloc (Nat.le_refl _) _) _⟩
set_option maxHeartbeats 1000000 in
theorem valid_F_b5 (k0 k1 k2 k3 k4 : Int) (h0 : 0 ≤ k0) (h14 : k0 ≤ 14) (h1 : ¬ k0 = 1) (h2 : ¬ k0 = 2) (h3 : ¬ k0 = 3) (h5 : ¬ k0 = 5) (h6 : ¬ k0 = 6) (hm : Hid (manyOf k0 = 1)) (g0 : 0 ≤ k1) (g1 : k1 < 1) (g2 : 0 ≤ k2) (g3 : k2 ≤ 0) (g4 : 0 ≤ k3) (g : ¬ k3 ≤ 0) (w : World) :
    Calls Tryz.prog 5 #[Value.agg #[.int .i64 k0, .int .i64 k1, .int .i64 k2, .int .i64 k3, .int .u32 k4]] w fun e w' => e = .returned (.int .i64 103) ∧ Below w.heap.size w w' := by
  have e1 : (k0 == 1) = false := by simpa using h1
  have e2 : (k0 == 2) = false := by simpa using h2
  have e3 : (k0 == 3) = false := by simpa using h3
  have e5 : (k0 == 5) = false := by simpa using h5
  have e6 : (k0 == 6) = false := by simpa using h6
  have e0 : decide (k0 < 0) = false := by rw [decide_eq_false_iff_not]; omega
  have e14 : decide (14 < k0) = false := by rw [decide_eq_false_iff_not]; omega
  have d0 : decide (k1 < 0) = false := by rw [decide_eq_false_iff_not]; omega
  have d1 : decide (1 ≤ k1) = false := by rw [decide_eq_false_iff_not]; omega
  have d2 : decide (k2 < 0) = false := by rw [decide_eq_false_iff_not]; omega
  have d3 : decide (0 < k2) = false := by rw [decide_eq_false_iff_not]; omega
  have d4 : decide (k3 < 0) = false := by rw [decide_eq_false_iff_not]; omega
  have d5 : decide (0 < k3) = true := by rw [decide_eq_true_iff]; omega
  go_enter Tryz.func5, Tryz.ntmps5
  go_wp2_with (first | (go_at_call 15; refine (many_is _ _ hm _).mono ?_; rintro e w' ⟨rfl, rfl⟩))
  go_quiet ((go_at_call 15; exact quiet_left (many_is _ _ hm _)))
  go_wp2
  go_ret
  exact ⟨rfl, below_drewN ((Below.refl _ _).alloc (Nat.le_refl _) _) _⟩
set_option maxHeartbeats 1000000 in
theorem valid_F_b6 (k0 k1 k2 k3 k4 : Int) (h0 : 0 ≤ k0) (h14 : k0 ≤ 14) (h1 : ¬ k0 = 1) (h2 : ¬ k0 = 2) (h3 : ¬ k0 = 3) (h5 : ¬ k0 = 5) (h6 : ¬ k0 = 6) (hm : Hid (manyOf k0 = 1)) (g0 : 0 ≤ k1) (g1 : k1 < 1) (g2 : 0 ≤ k2) (g3 : k2 ≤ 0) (g4 : 0 ≤ k3) (g5 : k3 ≤ 0) (g : ¬ k4 ≤ 0) (w : World) :
    Calls Tryz.prog 5 #[Value.agg #[.int .i64 k0, .int .i64 k1, .int .i64 k2, .int .i64 k3, .int .u32 k4]] w fun e w' => e = .returned (.int .i64 103) ∧ Below w.heap.size w w' := by
  have e1 : (k0 == 1) = false := by simpa using h1
  have e2 : (k0 == 2) = false := by simpa using h2
  have e3 : (k0 == 3) = false := by simpa using h3
  have e5 : (k0 == 5) = false := by simpa using h5
  have e6 : (k0 == 6) = false := by simpa using h6
  have e0 : decide (k0 < 0) = false := by rw [decide_eq_false_iff_not]; omega
  have e14 : decide (14 < k0) = false := by rw [decide_eq_false_iff_not]; omega
  have d0 : decide (k1 < 0) = false := by rw [decide_eq_false_iff_not]; omega
  have d1 : decide (1 ≤ k1) = false := by rw [decide_eq_false_iff_not]; omega
  have d2 : decide (k2 < 0) = false := by rw [decide_eq_false_iff_not]; omega
  have d3 : decide (0 < k2) = false := by rw [decide_eq_false_iff_not]; omega
  have d4 : decide (k3 < 0) = false := by rw [decide_eq_false_iff_not]; omega
  have d5 : decide (0 < k3) = false := by rw [decide_eq_false_iff_not]; omega
  have d6 : decide (0 < k4) = true := by rw [decide_eq_true_iff]; omega
  go_enter Tryz.func5, Tryz.ntmps5
  go_wp2_with (first | (go_at_call 15; refine (many_is _ _ hm _).mono ?_; rintro e w' ⟨rfl, rfl⟩))
  go_quiet ((go_at_call 15; exact quiet_left (many_is _ _ hm _)))
  go_wp2
  go_ret
  exact ⟨rfl, below_drewN ((Below.refl _ _).alloc (Nat.le_refl _) _) _⟩
end Go.Proofs.YthgjejclhdolmaaGreatDoor
namespace Go.Proofs.YthgjejclhdolmaaGreatDoor
open Go.ChangeShapes Go.WideShapes Go.ChangeAt Go.RowKit
set_option linter.unusedVariables false
def mostOf (k : Int) : Int := if 1 < manyOf k then 1048575 else 0
def rightsOf (k : Int) : Int := if k = 2 ∨ k = 3 then 7 else 0
def dataOf (k : Int) : Int := if k = 1 then 4294967295 else if k = 2 then 4 else if k = 5 ∨ k = 6 then 536870911 else 0
def InB (k0 k1 k2 k3 k4 : Int) : Prop := 0 ≤ k1 ∧ k1 < manyOf k0 ∧ 0 ≤ k2 ∧ k2 ≤ mostOf k0 ∧ 0 ≤ k3 ∧ k3 ≤ rightsOf k0 ∧ k4 ≤ dataOf k0
instance (k0 k1 k2 k3 k4 : Int) : Decidable (InB k0 k1 k2 k3 k4) := by unfold InB; infer_instance
/-- The error's number of a key that may not be; 0: it may. -/
def codeOf (k0 k1 k2 k3 k4 : Int) : Int := if k0 < 0 ∨ 14 < k0 then 102 else if InB k0 k1 k2 k3 k4 then 0 else 103
theorem codeOf_102 (k0 k1 k2 k3 k4 : Int) (h : k0 < 0 ∨ 14 < k0) : codeOf k0 k1 k2 k3 k4 = 102 := by unfold codeOf; rw [if_pos h]
theorem codeOf_0 (k0 k1 k2 k3 k4 : Int) (h : ¬ (k0 < 0 ∨ 14 < k0)) (hi : InB k0 k1 k2 k3 k4) : codeOf k0 k1 k2 k3 k4 = 0 := by unfold codeOf; rw [if_neg h, if_pos hi]
theorem codeOf_103 (k0 k1 k2 k3 k4 : Int) (h : ¬ (k0 < 0 ∨ 14 < k0)) (hi : ¬ InB k0 k1 k2 k3 k4) : codeOf k0 k1 k2 k3 k4 = 103 := by unfold codeOf; rw [if_neg h, if_neg hi]
theorem valid_1 (k1 k2 k3 k4 : Int) (gu : k4 ≤ 4294967295) (w : World) : Calls Tryz.prog 5 #[Value.agg #[.int .i64 1, .int .i64 k1, .int .i64 k2, .int .i64 k3, .int .u32 k4]] w fun e w' => e = .returned (.int .i64 (codeOf 1 k1 k2 k3 k4)) ∧ Below w.heap.size w w' := by
  have hm : manyOf 1 = 1 := rfl
  have nk : ¬ ((1 : Int) < 0 ∨ 14 < (1 : Int)) := by omega
  have hmo : mostOf 1 = 0 := rfl
  have hrg : rightsOf 1 = 0 := rfl
  have hda : dataOf 1 = 4294967295 := rfl
  by_cases g0 : 0 ≤ k1
  rotate_left
  · rw [codeOf_103 _ _ _ _ _ nk (by unfold InB; rw [hm, hmo, hrg, hda]; omega)]; exact valid_1_b0 k1 k2 k3 k4 (Lib.hid hm)  g0 w
  by_cases g1 : k1 < 1
  rotate_left
  · rw [codeOf_103 _ _ _ _ _ nk (by unfold InB; rw [hm, hmo, hrg, hda]; omega)]; exact valid_1_b1 k1 k2 k3 k4 (Lib.hid hm) g0 g1 w
  by_cases g2 : 0 ≤ k2
  rotate_left
  · rw [codeOf_103 _ _ _ _ _ nk (by unfold InB; rw [hm, hmo, hrg, hda]; omega)]; exact valid_1_b2 k1 k2 k3 k4 (Lib.hid hm) g0 g1 g2 w
  by_cases g3 : k2 ≤ 0
  rotate_left
  · rw [codeOf_103 _ _ _ _ _ nk (by unfold InB; rw [hm, hmo, hrg, hda]; omega)]; exact valid_1_b3 k1 k2 k3 k4 (Lib.hid hm) g0 g1 g2 g3 w
  by_cases g4 : 0 ≤ k3
  rotate_left
  · rw [codeOf_103 _ _ _ _ _ nk (by unfold InB; rw [hm, hmo, hrg, hda]; omega)]; exact valid_1_b4 k1 k2 k3 k4 (Lib.hid hm) g0 g1 g2 g3 g4 w
  by_cases g5 : k3 ≤ 0
  rotate_left
  · rw [codeOf_103 _ _ _ _ _ nk (by unfold InB; rw [hm, hmo, hrg, hda]; omega)]; exact valid_1_b5 k1 k2 k3 k4 (Lib.hid hm) g0 g1 g2 g3 g4 g5 w
  by_cases g6 : k4 ≤ 4294967295
  rotate_left
  · rw [codeOf_103 _ _ _ _ _ nk (by unfold InB; rw [hm, hmo, hrg, hda]; omega)]; exact valid_1_b6 k1 k2 k3 k4 (Lib.hid hm) g0 g1 g2 g3 g4 g5 g6 gu w
  rw [codeOf_0 _ _ _ _ _ nk (by unfold InB; rw [hm, hmo, hrg, hda]; omega)]; exact valid_1_ok k1 k2 k3 k4 (Lib.hid hm) g0 g1 g2 g3 g4 g5 g6 w
theorem valid_2 (k1 k2 k3 k4 : Int) (gu : k4 ≤ 4294967295) (w : World) : Calls Tryz.prog 5 #[Value.agg #[.int .i64 2, .int .i64 k1, .int .i64 k2, .int .i64 k3, .int .u32 k4]] w fun e w' => e = .returned (.int .i64 (codeOf 2 k1 k2 k3 k4)) ∧ Below w.heap.size w w' := by
  have hm : manyOf 2 = 256 := rfl
  have nk : ¬ ((2 : Int) < 0 ∨ 14 < (2 : Int)) := by omega
  have hmo : mostOf 2 = 1048575 := rfl
  have hrg : rightsOf 2 = 7 := rfl
  have hda : dataOf 2 = 4 := rfl
  by_cases g0 : 0 ≤ k1
  rotate_left
  · rw [codeOf_103 _ _ _ _ _ nk (by unfold InB; rw [hm, hmo, hrg, hda]; omega)]; exact valid_2_b0 k1 k2 k3 k4 (Lib.hid hm)  g0 w
  by_cases g1 : k1 < 256
  rotate_left
  · rw [codeOf_103 _ _ _ _ _ nk (by unfold InB; rw [hm, hmo, hrg, hda]; omega)]; exact valid_2_b1 k1 k2 k3 k4 (Lib.hid hm) g0 g1 w
  by_cases g2 : 0 ≤ k2
  rotate_left
  · rw [codeOf_103 _ _ _ _ _ nk (by unfold InB; rw [hm, hmo, hrg, hda]; omega)]; exact valid_2_b2 k1 k2 k3 k4 (Lib.hid hm) g0 g1 g2 w
  by_cases g3 : k2 ≤ 1048575
  rotate_left
  · rw [codeOf_103 _ _ _ _ _ nk (by unfold InB; rw [hm, hmo, hrg, hda]; omega)]; exact valid_2_b3 k1 k2 k3 k4 (Lib.hid hm) g0 g1 g2 g3 w
  by_cases g4 : 0 ≤ k3
  rotate_left
  · rw [codeOf_103 _ _ _ _ _ nk (by unfold InB; rw [hm, hmo, hrg, hda]; omega)]; exact valid_2_b4 k1 k2 k3 k4 (Lib.hid hm) g0 g1 g2 g3 g4 w
  by_cases g5 : k3 ≤ 7
  rotate_left
  · rw [codeOf_103 _ _ _ _ _ nk (by unfold InB; rw [hm, hmo, hrg, hda]; omega)]; exact valid_2_b5 k1 k2 k3 k4 (Lib.hid hm) g0 g1 g2 g3 g4 g5 w
  by_cases g6 : k4 ≤ 4
  rotate_left
  · rw [codeOf_103 _ _ _ _ _ nk (by unfold InB; rw [hm, hmo, hrg, hda]; omega)]; exact valid_2_b6 k1 k2 k3 k4 (Lib.hid hm) g0 g1 g2 g3 g4 g5 g6 w
  rw [codeOf_0 _ _ _ _ _ nk (by unfold InB; rw [hm, hmo, hrg, hda]; omega)]; exact valid_2_ok k1 k2 k3 k4 (Lib.hid hm) g0 g1 g2 g3 g4 g5 g6 w
theorem valid_3 (k1 k2 k3 k4 : Int) (gu : k4 ≤ 4294967295) (w : World) : Calls Tryz.prog 5 #[Value.agg #[.int .i64 3, .int .i64 k1, .int .i64 k2, .int .i64 k3, .int .u32 k4]] w fun e w' => e = .returned (.int .i64 (codeOf 3 k1 k2 k3 k4)) ∧ Below w.heap.size w w' := by
  have hm : manyOf 3 = 256 := rfl
  have nk : ¬ ((3 : Int) < 0 ∨ 14 < (3 : Int)) := by omega
  have hmo : mostOf 3 = 1048575 := rfl
  have hrg : rightsOf 3 = 7 := rfl
  have hda : dataOf 3 = 0 := rfl
  by_cases g0 : 0 ≤ k1
  rotate_left
  · rw [codeOf_103 _ _ _ _ _ nk (by unfold InB; rw [hm, hmo, hrg, hda]; omega)]; exact valid_3_b0 k1 k2 k3 k4 (Lib.hid hm)  g0 w
  by_cases g1 : k1 < 256
  rotate_left
  · rw [codeOf_103 _ _ _ _ _ nk (by unfold InB; rw [hm, hmo, hrg, hda]; omega)]; exact valid_3_b1 k1 k2 k3 k4 (Lib.hid hm) g0 g1 w
  by_cases g2 : 0 ≤ k2
  rotate_left
  · rw [codeOf_103 _ _ _ _ _ nk (by unfold InB; rw [hm, hmo, hrg, hda]; omega)]; exact valid_3_b2 k1 k2 k3 k4 (Lib.hid hm) g0 g1 g2 w
  by_cases g3 : k2 ≤ 1048575
  rotate_left
  · rw [codeOf_103 _ _ _ _ _ nk (by unfold InB; rw [hm, hmo, hrg, hda]; omega)]; exact valid_3_b3 k1 k2 k3 k4 (Lib.hid hm) g0 g1 g2 g3 w
  by_cases g4 : 0 ≤ k3
  rotate_left
  · rw [codeOf_103 _ _ _ _ _ nk (by unfold InB; rw [hm, hmo, hrg, hda]; omega)]; exact valid_3_b4 k1 k2 k3 k4 (Lib.hid hm) g0 g1 g2 g3 g4 w
  by_cases g5 : k3 ≤ 7
  rotate_left
  · rw [codeOf_103 _ _ _ _ _ nk (by unfold InB; rw [hm, hmo, hrg, hda]; omega)]; exact valid_3_b5 k1 k2 k3 k4 (Lib.hid hm) g0 g1 g2 g3 g4 g5 w
  by_cases g6 : k4 ≤ 0
  rotate_left
  · rw [codeOf_103 _ _ _ _ _ nk (by unfold InB; rw [hm, hmo, hrg, hda]; omega)]; exact valid_3_b6 k1 k2 k3 k4 (Lib.hid hm) g0 g1 g2 g3 g4 g5 g6 w
  rw [codeOf_0 _ _ _ _ _ nk (by unfold InB; rw [hm, hmo, hrg, hda]; omega)]; exact valid_3_ok k1 k2 k3 k4 (Lib.hid hm) g0 g1 g2 g3 g4 g5 g6 w
theorem valid_5 (k1 k2 k3 k4 : Int) (gu : k4 ≤ 4294967295) (w : World) : Calls Tryz.prog 5 #[Value.agg #[.int .i64 5, .int .i64 k1, .int .i64 k2, .int .i64 k3, .int .u32 k4]] w fun e w' => e = .returned (.int .i64 (codeOf 5 k1 k2 k3 k4)) ∧ Below w.heap.size w w' := by
  have hm : manyOf 5 = 32 := rfl
  have nk : ¬ ((5 : Int) < 0 ∨ 14 < (5 : Int)) := by omega
  have hmo : mostOf 5 = 1048575 := rfl
  have hrg : rightsOf 5 = 0 := rfl
  have hda : dataOf 5 = 536870911 := rfl
  by_cases g0 : 0 ≤ k1
  rotate_left
  · rw [codeOf_103 _ _ _ _ _ nk (by unfold InB; rw [hm, hmo, hrg, hda]; omega)]; exact valid_5_b0 k1 k2 k3 k4 (Lib.hid hm)  g0 w
  by_cases g1 : k1 < 32
  rotate_left
  · rw [codeOf_103 _ _ _ _ _ nk (by unfold InB; rw [hm, hmo, hrg, hda]; omega)]; exact valid_5_b1 k1 k2 k3 k4 (Lib.hid hm) g0 g1 w
  by_cases g2 : 0 ≤ k2
  rotate_left
  · rw [codeOf_103 _ _ _ _ _ nk (by unfold InB; rw [hm, hmo, hrg, hda]; omega)]; exact valid_5_b2 k1 k2 k3 k4 (Lib.hid hm) g0 g1 g2 w
  by_cases g3 : k2 ≤ 1048575
  rotate_left
  · rw [codeOf_103 _ _ _ _ _ nk (by unfold InB; rw [hm, hmo, hrg, hda]; omega)]; exact valid_5_b3 k1 k2 k3 k4 (Lib.hid hm) g0 g1 g2 g3 w
  by_cases g4 : 0 ≤ k3
  rotate_left
  · rw [codeOf_103 _ _ _ _ _ nk (by unfold InB; rw [hm, hmo, hrg, hda]; omega)]; exact valid_5_b4 k1 k2 k3 k4 (Lib.hid hm) g0 g1 g2 g3 g4 w
  by_cases g5 : k3 ≤ 0
  rotate_left
  · rw [codeOf_103 _ _ _ _ _ nk (by unfold InB; rw [hm, hmo, hrg, hda]; omega)]; exact valid_5_b5 k1 k2 k3 k4 (Lib.hid hm) g0 g1 g2 g3 g4 g5 w
  by_cases g6 : k4 ≤ 536870911
  rotate_left
  · rw [codeOf_103 _ _ _ _ _ nk (by unfold InB; rw [hm, hmo, hrg, hda]; omega)]; exact valid_5_b6 k1 k2 k3 k4 (Lib.hid hm) g0 g1 g2 g3 g4 g5 g6 w
  rw [codeOf_0 _ _ _ _ _ nk (by unfold InB; rw [hm, hmo, hrg, hda]; omega)]; exact valid_5_ok k1 k2 k3 k4 (Lib.hid hm) g0 g1 g2 g3 g4 g5 g6 w
theorem valid_6 (k1 k2 k3 k4 : Int) (gu : k4 ≤ 4294967295) (w : World) : Calls Tryz.prog 5 #[Value.agg #[.int .i64 6, .int .i64 k1, .int .i64 k2, .int .i64 k3, .int .u32 k4]] w fun e w' => e = .returned (.int .i64 (codeOf 6 k1 k2 k3 k4)) ∧ Below w.heap.size w w' := by
  have hm : manyOf 6 = 32 := rfl
  have nk : ¬ ((6 : Int) < 0 ∨ 14 < (6 : Int)) := by omega
  have hmo : mostOf 6 = 1048575 := rfl
  have hrg : rightsOf 6 = 0 := rfl
  have hda : dataOf 6 = 536870911 := rfl
  by_cases g0 : 0 ≤ k1
  rotate_left
  · rw [codeOf_103 _ _ _ _ _ nk (by unfold InB; rw [hm, hmo, hrg, hda]; omega)]; exact valid_6_b0 k1 k2 k3 k4 (Lib.hid hm)  g0 w
  by_cases g1 : k1 < 32
  rotate_left
  · rw [codeOf_103 _ _ _ _ _ nk (by unfold InB; rw [hm, hmo, hrg, hda]; omega)]; exact valid_6_b1 k1 k2 k3 k4 (Lib.hid hm) g0 g1 w
  by_cases g2 : 0 ≤ k2
  rotate_left
  · rw [codeOf_103 _ _ _ _ _ nk (by unfold InB; rw [hm, hmo, hrg, hda]; omega)]; exact valid_6_b2 k1 k2 k3 k4 (Lib.hid hm) g0 g1 g2 w
  by_cases g3 : k2 ≤ 1048575
  rotate_left
  · rw [codeOf_103 _ _ _ _ _ nk (by unfold InB; rw [hm, hmo, hrg, hda]; omega)]; exact valid_6_b3 k1 k2 k3 k4 (Lib.hid hm) g0 g1 g2 g3 w
  by_cases g4 : 0 ≤ k3
  rotate_left
  · rw [codeOf_103 _ _ _ _ _ nk (by unfold InB; rw [hm, hmo, hrg, hda]; omega)]; exact valid_6_b4 k1 k2 k3 k4 (Lib.hid hm) g0 g1 g2 g3 g4 w
  by_cases g5 : k3 ≤ 0
  rotate_left
  · rw [codeOf_103 _ _ _ _ _ nk (by unfold InB; rw [hm, hmo, hrg, hda]; omega)]; exact valid_6_b5 k1 k2 k3 k4 (Lib.hid hm) g0 g1 g2 g3 g4 g5 w
  by_cases g6 : k4 ≤ 536870911
  rotate_left
  · rw [codeOf_103 _ _ _ _ _ nk (by unfold InB; rw [hm, hmo, hrg, hda]; omega)]; exact valid_6_b6 k1 k2 k3 k4 (Lib.hid hm) g0 g1 g2 g3 g4 g5 g6 w
  rw [codeOf_0 _ _ _ _ _ nk (by unfold InB; rw [hm, hmo, hrg, hda]; omega)]; exact valid_6_ok k1 k2 k3 k4 (Lib.hid hm) g0 g1 g2 g3 g4 g5 g6 w
theorem valid_D (k0 k1 k2 k3 k4 : Int) (h0 : 0 ≤ k0) (h14 : k0 ≤ 14) (h1 : ¬ k0 = 1) (h2 : ¬ k0 = 2) (h3 : ¬ k0 = 3) (h5 : ¬ k0 = 5) (h6 : ¬ k0 = 6) (hm1 : 1 < manyOf k0) (gu : k4 ≤ 4294967295) (w : World) : Calls Tryz.prog 5 #[Value.agg #[.int .i64 k0, .int .i64 k1, .int .i64 k2, .int .i64 k3, .int .u32 k4]] w fun e w' => e = .returned (.int .i64 (codeOf k0 k1 k2 k3 k4)) ∧ Below w.heap.size w w' := by
  have hm : manyOf k0 = (manyOf k0) := rfl
  have nk : ¬ ((k0 : Int) < 0 ∨ 14 < (k0 : Int)) := by omega
  have hmo : mostOf k0 = 1048575 := by unfold mostOf; rw [if_pos hm1]
  have hrg : rightsOf k0 = 0 := by unfold rightsOf; rw [if_neg (by omega)]
  have hda : dataOf k0 = 0 := by unfold dataOf; rw [if_neg h1, if_neg h2, if_neg (by omega)]
  by_cases g0 : 0 ≤ k1
  rotate_left
  · rw [codeOf_103 _ _ _ _ _ nk (by unfold InB; rw [hm, hmo, hrg, hda]; omega)]; exact valid_D_b0 k0 k1 k2 k3 k4 (manyOf k0) h0 h14 h1 h2 h3 h5 h6 (Lib.hid hm) hm1  g0 w
  by_cases g1 : k1 < (manyOf k0)
  rotate_left
  · rw [codeOf_103 _ _ _ _ _ nk (by unfold InB; rw [hm, hmo, hrg, hda]; omega)]; exact valid_D_b1 k0 k1 k2 k3 k4 (manyOf k0) h0 h14 h1 h2 h3 h5 h6 (Lib.hid hm) hm1 g0 g1 w
  by_cases g2 : 0 ≤ k2
  rotate_left
  · rw [codeOf_103 _ _ _ _ _ nk (by unfold InB; rw [hm, hmo, hrg, hda]; omega)]; exact valid_D_b2 k0 k1 k2 k3 k4 (manyOf k0) h0 h14 h1 h2 h3 h5 h6 (Lib.hid hm) hm1 g0 g1 g2 w
  by_cases g3 : k2 ≤ 1048575
  rotate_left
  · rw [codeOf_103 _ _ _ _ _ nk (by unfold InB; rw [hm, hmo, hrg, hda]; omega)]; exact valid_D_b3 k0 k1 k2 k3 k4 (manyOf k0) h0 h14 h1 h2 h3 h5 h6 (Lib.hid hm) hm1 g0 g1 g2 g3 w
  by_cases g4 : 0 ≤ k3
  rotate_left
  · rw [codeOf_103 _ _ _ _ _ nk (by unfold InB; rw [hm, hmo, hrg, hda]; omega)]; exact valid_D_b4 k0 k1 k2 k3 k4 (manyOf k0) h0 h14 h1 h2 h3 h5 h6 (Lib.hid hm) hm1 g0 g1 g2 g3 g4 w
  by_cases g5 : k3 ≤ 0
  rotate_left
  · rw [codeOf_103 _ _ _ _ _ nk (by unfold InB; rw [hm, hmo, hrg, hda]; omega)]; exact valid_D_b5 k0 k1 k2 k3 k4 (manyOf k0) h0 h14 h1 h2 h3 h5 h6 (Lib.hid hm) hm1 g0 g1 g2 g3 g4 g5 w
  by_cases g6 : k4 ≤ 0
  rotate_left
  · rw [codeOf_103 _ _ _ _ _ nk (by unfold InB; rw [hm, hmo, hrg, hda]; omega)]; exact valid_D_b6 k0 k1 k2 k3 k4 (manyOf k0) h0 h14 h1 h2 h3 h5 h6 (Lib.hid hm) hm1 g0 g1 g2 g3 g4 g5 g6 w
  rw [codeOf_0 _ _ _ _ _ nk (by unfold InB; rw [hm, hmo, hrg, hda]; omega)]; exact valid_D_ok k0 k1 k2 k3 k4 (manyOf k0) h0 h14 h1 h2 h3 h5 h6 (Lib.hid hm) hm1 g0 g1 g2 g3 g4 g5 g6 w
theorem valid_F (k0 k1 k2 k3 k4 : Int) (h0 : 0 ≤ k0) (h14 : k0 ≤ 14) (h1 : ¬ k0 = 1) (h2 : ¬ k0 = 2) (h3 : ¬ k0 = 3) (h5 : ¬ k0 = 5) (h6 : ¬ k0 = 6) (hm0 : manyOf k0 = 1) (gu : k4 ≤ 4294967295) (w : World) : Calls Tryz.prog 5 #[Value.agg #[.int .i64 k0, .int .i64 k1, .int .i64 k2, .int .i64 k3, .int .u32 k4]] w fun e w' => e = .returned (.int .i64 (codeOf k0 k1 k2 k3 k4)) ∧ Below w.heap.size w w' := by
  have hm : manyOf k0 = 1 := hm0
  have nk : ¬ ((k0 : Int) < 0 ∨ 14 < (k0 : Int)) := by omega
  have hmo : mostOf k0 = 0 := by unfold mostOf; rw [hm0]; rfl
  have hrg : rightsOf k0 = 0 := by unfold rightsOf; rw [if_neg (by omega)]
  have hda : dataOf k0 = 0 := by unfold dataOf; rw [if_neg h1, if_neg h2, if_neg (by omega)]
  by_cases g0 : 0 ≤ k1
  rotate_left
  · rw [codeOf_103 _ _ _ _ _ nk (by unfold InB; rw [hm, hmo, hrg, hda]; omega)]; exact valid_F_b0 k0 k1 k2 k3 k4 h0 h14 h1 h2 h3 h5 h6 (Lib.hid hm)  g0 w
  by_cases g1 : k1 < 1
  rotate_left
  · rw [codeOf_103 _ _ _ _ _ nk (by unfold InB; rw [hm, hmo, hrg, hda]; omega)]; exact valid_F_b1 k0 k1 k2 k3 k4 h0 h14 h1 h2 h3 h5 h6 (Lib.hid hm) g0 g1 w
  by_cases g2 : 0 ≤ k2
  rotate_left
  · rw [codeOf_103 _ _ _ _ _ nk (by unfold InB; rw [hm, hmo, hrg, hda]; omega)]; exact valid_F_b2 k0 k1 k2 k3 k4 h0 h14 h1 h2 h3 h5 h6 (Lib.hid hm) g0 g1 g2 w
  by_cases g3 : k2 ≤ 0
  rotate_left
  · rw [codeOf_103 _ _ _ _ _ nk (by unfold InB; rw [hm, hmo, hrg, hda]; omega)]; exact valid_F_b3 k0 k1 k2 k3 k4 h0 h14 h1 h2 h3 h5 h6 (Lib.hid hm) g0 g1 g2 g3 w
  by_cases g4 : 0 ≤ k3
  rotate_left
  · rw [codeOf_103 _ _ _ _ _ nk (by unfold InB; rw [hm, hmo, hrg, hda]; omega)]; exact valid_F_b4 k0 k1 k2 k3 k4 h0 h14 h1 h2 h3 h5 h6 (Lib.hid hm) g0 g1 g2 g3 g4 w
  by_cases g5 : k3 ≤ 0
  rotate_left
  · rw [codeOf_103 _ _ _ _ _ nk (by unfold InB; rw [hm, hmo, hrg, hda]; omega)]; exact valid_F_b5 k0 k1 k2 k3 k4 h0 h14 h1 h2 h3 h5 h6 (Lib.hid hm) g0 g1 g2 g3 g4 g5 w
  by_cases g6 : k4 ≤ 0
  rotate_left
  · rw [codeOf_103 _ _ _ _ _ nk (by unfold InB; rw [hm, hmo, hrg, hda]; omega)]; exact valid_F_b6 k0 k1 k2 k3 k4 h0 h14 h1 h2 h3 h5 h6 (Lib.hid hm) g0 g1 g2 g3 g4 g5 g6 w
  rw [codeOf_0 _ _ _ _ _ nk (by unfold InB; rw [hm, hmo, hrg, hda]; omega)]; exact valid_F_ok k0 k1 k2 k3 k4 h0 h14 h1 h2 h3 h5 h6 (Lib.hid hm) g0 g1 g2 g3 g4 g5 g6 w
theorem valid_any (k0 k1 k2 k3 k4 : Int) (gu : k4 ≤ 4294967295) (w : World) : Calls Tryz.prog 5 #[(Value.agg #[.int .i64 k0, .int .i64 k1, .int .i64 k2, .int .i64 k3, .int .u32 k4])] w fun e w' => e = .returned (.int .i64 (codeOf k0 k1 k2 k3 k4)) ∧ Below w.heap.size w w' := by
  by_cases hk : k0 < 0
  · rw [codeOf_102 _ _ _ _ _ (.inl hk)]; exact valid_kind0 k0 k1 k2 k3 k4 hk w
  by_cases hk' : 14 < k0
  · rw [codeOf_102 _ _ _ _ _ (.inr hk')]; exact valid_kind1 k0 k1 k2 k3 k4 hk' w
  by_cases h1 : k0 = 1
  · subst h1; exact valid_1 k1 k2 k3 k4 gu w
  by_cases h2 : k0 = 2
  · subst h2; exact valid_2 k1 k2 k3 k4 gu w
  by_cases h3 : k0 = 3
  · subst h3; exact valid_3 k1 k2 k3 k4 gu w
  by_cases h5 : k0 = 5
  · subst h5; exact valid_5 k1 k2 k3 k4 gu w
  by_cases h6 : k0 = 6
  · subst h6; exact valid_6 k1 k2 k3 k4 gu w
  by_cases hD : k0 = 4 ∨ k0 = 7 ∨ k0 = 8 ∨ k0 = 9 ∨ k0 = 10
  · exact valid_D k0 k1 k2 k3 k4 (by omega) (by omega) h1 h2 h3 h5 h6 (by rcases hD with rfl | rfl | rfl | rfl | rfl <;> decide) gu w
  · exact valid_F k0 k1 k2 k3 k4 (by omega) (by omega) h1 h2 h3 h5 h6 (by unfold manyOf; rw [if_neg (by omega), if_neg (by omega), if_neg (by omega)]) gu w
theorem valid_is (k0 k1 k2 k3 k4 : Int) (c : Int) (h : Hid (codeOf k0 k1 k2 k3 k4 = c)) (gu : k4 ≤ 4294967295) (w : World) : Calls Tryz.prog 5 #[(Value.agg #[.int .i64 k0, .int .i64 k1, .int .i64 k2, .int .i64 k3, .int .u32 k4])] w fun e w' => e = .returned (.int .i64 c) ∧ Below w.heap.size w w' := by
  rw [← h.out]; exact valid_any k0 k1 k2 k3 k4 gu w
end Go.Proofs.YthgjejclhdolmaaGreatDoor
namespace Go.Proofs.YthgjejclhdolmaaGreatDoor
open Go.ChangeShapes Go.WideShapes Go.ChangeAt Go.RowKit
set_option linter.unusedVariables false
end Go.Proofs.YthgjejclhdolmaaGreatDoor
namespace Go.Proofs.YthgjejclhdolmaaGreatDoor
open Go.ChangeShapes Go.WideShapes Go.ChangeAt Go.RowKit
set_option linter.unusedVariables false
def andI (a b : Int) : Int := bits BinOp.and IntKind.i64 a b
def orI (a b : Int) : Int := bits BinOp.or IntKind.i64 a b
def In8 (x : Int) : Prop := 0 ≤ x ∧ x ≤ 7
theorem In8.of (n : Fin 8) : In8 (n.val : Int) := ⟨by omega, by have := n.isLt; omega⟩
theorem code_cases (k0 k1 k2 k3 k4 : Int) : codeOf k0 k1 k2 k3 k4 = 0 ∨ codeOf k0 k1 k2 k3 k4 = 102 ∨ codeOf k0 k1 k2 k3 k4 = 103 := by
  unfold codeOf; split
  · exact .inr (.inl rfl)
  · split
    · exact .inl rfl
    · exact .inr (.inr rfl)
end Go.Proofs.YthgjejclhdolmaaGreatDoor
namespace Go.Proofs.YthgjejclhdolmaaGreatDoor
open Go.ChangeShapes Go.WideShapes Go.ChangeAt Go.RowKit
set_option linter.unusedVariables false
/-- Does a give no more than b? -/
def withinB (a0 a1 a2 a3 a4 b0 b1 b2 b3 b4 : Int) : Bool := (bits BinOp.and IntKind.i64 a3 b3 == b3) && sameB a0 a1 a2 0 a4 b0 b1 b2 0 b4
theorem RowI.below {W w' : World} {a : Option Addr} {len : Nat} {xs : List Int} (h : RowI W a len xs) (hb : Below W.heap.size W w') : RowI w' a len xs := by
  obtain ⟨h1, h2⟩ := h
  refine ⟨h1, ?_⟩
  rcases h2 with h2 | ⟨b, off, rfl, hl, hc⟩
  · exact .inl h2
  · exact .inr ⟨b, off, rfl, Nat.lt_of_lt_of_le hl hb.size, fun i hi => (hb.cell (p := ⟨b, off + i, none⟩) hl).trans (hc i hi)⟩
end Go.Proofs.YthgjejclhdolmaaGreatDoor
namespace Go.Proofs.YthgjejclhdolmaaGreatDoor
open Go.ChangeShapes Go.WideShapes Go.ChangeAt Go.RowKit
set_option linter.unusedVariables false
set_option linter.unusedSimpArgs false
section
variable {s m d t b f q : Nat} {st : Int}
set_option maxRecDepth 100000 in
set_option maxHeartbeats 4000000 in
theorem slive_maker_no (k1 k2 k3 k4 : Int) (dp dR n c base : Nat) (th : Nat → Bool) (vr : Nat → Int) (hr : Hid ((thereB n th k1 && (vr k1.toNat == k2)) = false)) (w : World) (hB : SyB w s m d t b f q st) (hP : w.cell? ⟨f, 0, none⟩ = some (.pointer (some ⟨dp, 0, none⟩))) (hA : ArAt w base dp dR n c th vr) :
    Calls Tryz.prog 28 #[.pointer (some ⟨s, 0, none⟩), .agg #[.int .i64 9, .int .i64 k1, .int .i64 k2, .int .i64 k3, .int .u32 k4]] w fun e w' => e = .returned (.bool false) ∧ Below w.heap.size w w' := by
  have HA := Lib.hid (fun W (hW : Below w.heap.size w W) => alive_is k1 k2 false hr W (hA.below hW))
  have HB := Lib.hid hB
  have HP := Lib.hid hP
  have hdl : f < w.heap.size := cell_lt hP
  clear hA hB hP
  go_enter Tryz.func28, Tryz.ntmps28
  go_upto_region 1 with fail
  generalize hA : World.alloc w _ = wA
  obtain ⟨K, hK⟩ : ∃ K, K = w.heap.size := ⟨_, rfl⟩
  have HBa : Hid (Below w.heap.size w wA) := Lib.hid (by rw [← hA]; exact (Below.refl _ _).alloc (Nat.le_refl _) _)
  have kc0 : wA.cell? ⟨K, 0, none⟩ = some (.int .i64 9) := by rw [← hA, hK]; simp
  have kc1 : wA.cell? ⟨K, 1, none⟩ = some (.int .i64 k1) := by rw [← hA, hK]; simp
  have kc2 : wA.cell? ⟨K, 2, none⟩ = some (.int .i64 k2) := by rw [← hA, hK]; simp
  have sc := ((HB.out.below HBa.out).c4)
  have pc := (HBa.out.cell (p := ⟨f, 0, none⟩) hdl).trans HP.out
  rw [← hK]
  clear hA hK hdl
  go_wp2_with fail
  have HA9 := Lib.hid (fun n => HA.out (wA.drewN n) (below_drewN HBa.out n))
  go_quiet ((go_at_call 49; exact kquiet_left (HA9.out _)))
  go_wp2_with fail
  go_ret
  exact ⟨rfl, below_drewN HBa.out _⟩
set_option maxRecDepth 100000 in
set_option maxHeartbeats 4000000 in
theorem slive_builder_no (k1 k2 k3 k4 : Int) (dp dR n c base : Nat) (th : Nat → Bool) (vr : Nat → Int) (hr : Hid ((thereB n th k1 && (vr k1.toNat == k2)) = false)) (w : World) (hB : SyB w s m d t b f q st) (hP : w.cell? ⟨f, 0, none⟩ = some (.pointer (some ⟨dp, 0, none⟩))) (hA : ArAt w base dp dR n c th vr) :
    Calls Tryz.prog 28 #[.pointer (some ⟨s, 0, none⟩), .agg #[.int .i64 10, .int .i64 k1, .int .i64 k2, .int .i64 k3, .int .u32 k4]] w fun e w' => e = .returned (.bool false) ∧ Below w.heap.size w w' := by
  have HA := Lib.hid (fun W (hW : Below w.heap.size w W) => alive_is k1 k2 false hr W (hA.below hW))
  have HB := Lib.hid hB
  have HP := Lib.hid hP
  have hdl : f < w.heap.size := cell_lt hP
  clear hA hB hP
  go_enter Tryz.func28, Tryz.ntmps28
  go_upto_region 1 with fail
  generalize hA : World.alloc w _ = wA
  obtain ⟨K, hK⟩ : ∃ K, K = w.heap.size := ⟨_, rfl⟩
  have HBa : Hid (Below w.heap.size w wA) := Lib.hid (by rw [← hA]; exact (Below.refl _ _).alloc (Nat.le_refl _) _)
  have kc0 : wA.cell? ⟨K, 0, none⟩ = some (.int .i64 10) := by rw [← hA, hK]; simp
  have kc1 : wA.cell? ⟨K, 1, none⟩ = some (.int .i64 k1) := by rw [← hA, hK]; simp
  have kc2 : wA.cell? ⟨K, 2, none⟩ = some (.int .i64 k2) := by rw [← hA, hK]; simp
  have sc := ((HB.out.below HBa.out).c4)
  have pc := (HBa.out.cell (p := ⟨f, 0, none⟩) hdl).trans HP.out
  rw [← hK]
  clear hA hK hdl
  go_wp2_with fail
  have HA9 := Lib.hid (fun n => HA.out (wA.drewN n) (below_drewN HBa.out n))
  go_quiet ((go_at_call 49; exact kquiet_left (HA9.out _)))
  go_wp2_with fail
  go_ret
  exact ⟨rfl, below_drewN HBa.out _⟩
end
theorem slive_plain (s : Nat) (k0 k1 k2 k3 k4 : Int) (hk : k0 = 0 ∨ k0 = 1 ∨ k0 = 11 ∨ k0 = 12 ∨ k0 = 13 ∨ k0 = 14) (w : World) : Calls Tryz.prog 28 #[.pointer (some ⟨s, 0, none⟩), (Value.agg #[.int .i64 k0, .int .i64 k1, .int .i64 k2, .int .i64 k3, .int .u32 k4])] w fun e w' => e = .returned (.bool true) ∧ Below w.heap.size w w' := by
  rcases hk with rfl | rfl | rfl | rfl | rfl | rfl
  all_goals
    go_enter Tryz.func28, Tryz.ntmps28
    go_wp2_with fail
    go_ret
    exact ⟨rfl, (Below.refl _ _).alloc (Nat.le_refl _) _⟩
set_option maxRecDepth 100000 in
set_option maxHeartbeats 4000000 in
theorem slive_mem {S : Nat} {a b : Shp} {th : Nat → Bool} {vr_ : Nat → Int} {W : Nat → Nat → Value} {th2 : Nat → Bool} {vr2 : Nat → Int} {W2 : Nat → Nat → Int} (s m : Nat) (k0 k1 k2 k3 k4 : Int) (hk : k0 = 2 ∨ k0 = 3) (r : Bool) (hr : Hid (liveB a b th vr_ th2 vr2 k0 k1 k2 = r)) (w : World) (h0 : w.cell? ⟨s, 0, none⟩ = some (.pointer (some ⟨m, 0, none⟩))) (h1 : w.cell? ⟨m, 0, none⟩ = some (.pointer (some ⟨S, 0, none⟩))) (h : (StAt w S a b th vr_ W th2 vr2 W2)) :
    Calls Tryz.prog 28 #[.pointer (some ⟨s, 0, none⟩), (Value.agg #[.int .i64 k0, .int .i64 k1, .int .i64 k2, .int .i64 k3, .int .u32 k4])] w fun e w' => e = .returned (.bool r) ∧ Below w.heap.size w w' := by
  have H := Lib.hid h
  have HL := Lib.hid (⟨cell_lt h0, cell_lt h1, h0, h1⟩ : s < w.heap.size ∧ m < w.heap.size ∧ w.cell? ⟨s, 0, none⟩ = some (.pointer (some ⟨m, 0, none⟩)) ∧ w.cell? ⟨m, 0, none⟩ = some (.pointer (some ⟨S, 0, none⟩)))
  clear h h0 h1
  rcases hk with rfl | rfl
  · go_enter Tryz.func28, Tryz.ntmps28; go_upto_region 1 with fail; generalize hA : World.alloc w _ = wA; obtain ⟨KB, hKB⟩ : ∃ KB, KB = w.heap.size := ⟨_, rfl⟩; have HA : Hid (Below w.heap.size w wA ∧ KeyC wA KB 2 k1 k2 k3 k4) := (Lib.hid (by rw [← hA, hKB]; exact ⟨(Below.refl _ _).alloc (Nat.le_refl _) _, KeyC.new w 2 k1 k2 k3 k4 _⟩)); rw [← hKB]; clear hA hKB; have q0 := HA.out.2.c0; go_upto_region 11 with fail; have HSK : Hid (∀ W, Below wA.heap.size wA W → (World.cell? W ⟨s, 0, none⟩ = some (.pointer (some ⟨m, 0, none⟩)) ∧ World.cell? W ⟨m, 0, none⟩ = some (.pointer (some ⟨S, 0, none⟩)) ∧ (World.cell? W ⟨KB, 0, none⟩ = some (.int .i64 2) ∧ World.cell? W ⟨KB, 1, none⟩ = some (.int .i64 k1) ∧ World.cell? W ⟨KB, 2, none⟩ = some (.int .i64 k2) ∧ World.cell? W ⟨KB, 3, none⟩ = some (.int .i64 k3) ∧ World.cell? W ⟨KB, 4, none⟩ = some (.int .u32 k4)))) := (Lib.hid (fun W hW => ⟨((HA.out.1.trans (hW.mono HA.out.1.size)).cell (p := ⟨s, 0, none⟩) HL.out.1).trans HL.out.2.2.1, ((HA.out.1.trans (hW.mono HA.out.1.size)).cell (p := ⟨m, 0, none⟩) HL.out.2.1).trans HL.out.2.2.2, ofive (HA.out.2.below hW)⟩)); obtain ⟨wD, hwD⟩ : ∃ wD, wD = wA.drew := ⟨_, rfl⟩; have HBd : Hid (Below wA.heap.size wA wD) := (Lib.hid (by rw [hwD]; exact (Below.refl _ _).drew)); refine wp_region_noPanic ?_; refine wp_region_held_drew (S := fun W => (World.cell? W ⟨s, 0, none⟩ = some (.pointer (some ⟨m, 0, none⟩)) ∧ World.cell? W ⟨m, 0, none⟩ = some (.pointer (some ⟨S, 0, none⟩)) ∧ (World.cell? W ⟨KB, 0, none⟩ = some (.int .i64 2) ∧ World.cell? W ⟨KB, 1, none⟩ = some (.int .i64 k1) ∧ World.cell? W ⟨KB, 2, none⟩ = some (.int .i64 k2) ∧ World.cell? W ⟨KB, 3, none⟩ = some (.int .i64 k3) ∧ World.cell? W ⟨KB, 4, none⟩ = some (.int .u32 k4)))) (by kernel_rfl) (by rw [← hwD]; exact HSK.out _ HBd.out) (fun hHeld => ?_); rw [← hwD] at hHeld ⊢; clear hwD; refine wpAnyH_take (i := 0) (v := ?_) (by rfl) (by kernel_rfl) (by kernel_rfl) (by kernel_rfl) (fun _ _ _ h => h) (Or.inl ⟨by kernel_rfl, ?_⟩) (by assumption) ?_; rotate_left 1; (focus (intro w hSw; (try dsimp only at hSw); simp only [List.getElem_toArray, List.getElem_cons_succ, List.getElem_cons_zero]; all_goals go_simp; all_goals (try with_reducible rfl))); (try simp only [Act.put, List.getElem_toArray, List.getElem_cons_succ, List.getElem_cons_zero, List.setIfInBounds_toArray, List.set_cons_zero, List.set_cons_succ]); refine wpAnyH_take (i := 1) (v := ?_) (by rfl) (by kernel_rfl) (by kernel_rfl) (by kernel_rfl) (fun _ _ _ h => h) (Or.inl ⟨by kernel_rfl, ?_⟩) (by assumption) ?_; rotate_left 1; (focus (intro w hSw; (try dsimp only at hSw); simp only [List.getElem_toArray, List.getElem_cons_succ, List.getElem_cons_zero]; all_goals go_simp; all_goals (try with_reducible rfl))); (try simp only [Act.put, List.getElem_toArray, List.getElem_cons_succ, List.getElem_cons_zero, List.setIfInBounds_toArray, List.set_cons_zero, List.set_cons_succ]); refine wpAnyH_take (i := 2) (v := ?_) (by rfl) (by kernel_rfl) (by kernel_rfl) (by kernel_rfl) (fun _ _ _ h => h) (Or.inl ⟨by kernel_rfl, ?_⟩) (by assumption) ?_; rotate_left 1; (focus (intro w hSw; (try dsimp only at hSw); simp only [List.getElem_toArray, List.getElem_cons_succ, List.getElem_cons_zero]; all_goals go_simp; all_goals (try with_reducible rfl))); (try simp only [Act.put, List.getElem_toArray, List.getElem_cons_succ, List.getElem_cons_zero, List.setIfInBounds_toArray, List.set_cons_zero, List.set_cons_succ]); refine wpAnyH_take (i := 3) (v := ?_) (by rfl) (by kernel_rfl) (by kernel_rfl) (by kernel_rfl) (fun _ _ _ h => h) (Or.inl ⟨by kernel_rfl, ?_⟩) (by assumption) ?_; rotate_left 1; (focus (intro w hSw; (try dsimp only at hSw); simp only [List.getElem_toArray, List.getElem_cons_succ, List.getElem_cons_zero]; all_goals go_simp; all_goals (try with_reducible rfl))); (try simp only [Act.put, List.getElem_toArray, List.getElem_cons_succ, List.getElem_cons_zero, List.setIfInBounds_toArray, List.set_cons_zero, List.set_cons_succ]); refine wpAnyH_take (i := 4) (v := ?_) (by rfl) (by kernel_rfl) (by kernel_rfl) (by kernel_rfl) (fun _ _ _ h => h) (Or.inl ⟨by kernel_rfl, ?_⟩) (by assumption) ?_; rotate_left 1; (focus (intro w hSw; (try dsimp only at hSw); simp only [List.getElem_toArray, List.getElem_cons_succ, List.getElem_cons_zero]; all_goals go_simp; all_goals (try with_reducible rfl))); (try simp only [Act.put, List.getElem_toArray, List.getElem_cons_succ, List.getElem_cons_zero, List.setIfInBounds_toArray, List.set_cons_zero, List.set_cons_succ]); refine wpAnyH_take (i := 5) (v := ?_) (by rfl) (by kernel_rfl) (by kernel_rfl) (by kernel_rfl) (fun _ _ _ h => h) (Or.inl ⟨by kernel_rfl, ?_⟩) (by assumption) ?_; rotate_left 1; (focus (intro w hSw; (try dsimp only at hSw); simp only [List.getElem_toArray, List.getElem_cons_succ, List.getElem_cons_zero]; all_goals go_simp; all_goals (try with_reducible rfl))); (try simp only [Act.put, List.getElem_toArray, List.getElem_cons_succ, List.getElem_cons_zero, List.setIfInBounds_toArray, List.set_cons_zero, List.set_cons_succ]); refine wpAnyH_take (i := 6) (v := ?_) (by rfl) (by kernel_rfl) (by kernel_rfl) (by kernel_rfl) (fun _ _ _ h => h) (Or.inl ⟨by kernel_rfl, ?_⟩) (by assumption) ?_; rotate_left 1; (focus (intro w hSw; (try dsimp only at hSw); simp only [List.getElem_toArray, List.getElem_cons_succ, List.getElem_cons_zero]; all_goals go_simp; all_goals (try with_reducible rfl))); (try simp only [Act.put, List.getElem_toArray, List.getElem_cons_succ, List.getElem_cons_zero, List.setIfInBounds_toArray, List.set_cons_zero, List.set_cons_succ]); refine wpAnyH_take (i := 7) (v := ?_) (by rfl) (by kernel_rfl) (by kernel_rfl) (by kernel_rfl) (fun _ _ _ h => h) (Or.inl ⟨by kernel_rfl, ?_⟩) (by assumption) ?_; rotate_left 1; (focus (intro w hSw; (try dsimp only at hSw); simp only [List.getElem_toArray, List.getElem_cons_succ, List.getElem_cons_zero]; all_goals go_simp; all_goals (try with_reducible rfl))); (try simp only [Act.put, List.getElem_toArray, List.getElem_cons_succ, List.getElem_cons_zero, List.setIfInBounds_toArray, List.set_cons_zero, List.set_cons_succ]); refine wpAnyH_ready (rs := [8]) (by kernel_rfl) (by simp) ?_; refine AllReadyH.cons (by rfl) (fun K hK => ?_) AllReadyH.nil; rw [if_pos (by kernel_rfl)]; simp only [List.getElem_toArray, List.getElem_cons_succ, List.getElem_cons_zero]; go_wp2_with (first | (go_at_call 48; (with_reducible refine (slive_at 2 k1 k2 k3 k4 r hr _ (H.out.below (HA.out.1.trans (HBd.out.mono HA.out.1.size)))).mono ?_); rintro e w9 ⟨rfl, hb⟩; have HB9 := (Lib.hid (HBd.out.trans (hb.mono HBd.out.size))); clear hb)); refine hK.out _ _ (HSK.out _ HB9.out) (fun hHeld => ?_); clear hK K; (try simp only [Act.put, List.getElem_toArray, List.getElem_cons_succ, List.getElem_cons_zero, List.setIfInBounds_toArray, List.set_cons_zero, List.set_cons_succ]); refine wpAnyH_take (i := 9) (v := ?_) (by rfl) (by kernel_rfl) (by kernel_rfl) (by kernel_rfl) (fun _ _ _ h => h) (Or.inl ⟨by kernel_rfl, ?_⟩) (by assumption) ?_; rotate_left 1; (focus (intro w hSw; (try dsimp only at hSw); simp only [List.getElem_toArray, List.getElem_cons_succ, List.getElem_cons_zero]; all_goals go_simp; all_goals (try with_reducible rfl))); (try simp only [Act.put, List.getElem_toArray, List.getElem_cons_succ, List.getElem_cons_zero, List.setIfInBounds_toArray, List.set_cons_zero, List.set_cons_succ]); refine wpAnyH_done (by kernel_rfl) ?_ _; refine NoPanic.normal ?_; go_wp2_with fail; go_ret; exact ⟨rfl, HA.out.1.trans (HB9.out.mono HA.out.1.size)⟩
  · go_enter Tryz.func28, Tryz.ntmps28; go_upto_region 1 with fail; generalize hA : World.alloc w _ = wA; obtain ⟨KB, hKB⟩ : ∃ KB, KB = w.heap.size := ⟨_, rfl⟩; have HA : Hid (Below w.heap.size w wA ∧ KeyC wA KB 3 k1 k2 k3 k4) := (Lib.hid (by rw [← hA, hKB]; exact ⟨(Below.refl _ _).alloc (Nat.le_refl _) _, KeyC.new w 3 k1 k2 k3 k4 _⟩)); rw [← hKB]; clear hA hKB; have q0 := HA.out.2.c0; go_upto_region 11 with fail; have HSK : Hid (∀ W, Below wA.heap.size wA W → (World.cell? W ⟨s, 0, none⟩ = some (.pointer (some ⟨m, 0, none⟩)) ∧ World.cell? W ⟨m, 0, none⟩ = some (.pointer (some ⟨S, 0, none⟩)) ∧ (World.cell? W ⟨KB, 0, none⟩ = some (.int .i64 3) ∧ World.cell? W ⟨KB, 1, none⟩ = some (.int .i64 k1) ∧ World.cell? W ⟨KB, 2, none⟩ = some (.int .i64 k2) ∧ World.cell? W ⟨KB, 3, none⟩ = some (.int .i64 k3) ∧ World.cell? W ⟨KB, 4, none⟩ = some (.int .u32 k4)))) := (Lib.hid (fun W hW => ⟨((HA.out.1.trans (hW.mono HA.out.1.size)).cell (p := ⟨s, 0, none⟩) HL.out.1).trans HL.out.2.2.1, ((HA.out.1.trans (hW.mono HA.out.1.size)).cell (p := ⟨m, 0, none⟩) HL.out.2.1).trans HL.out.2.2.2, ofive (HA.out.2.below hW)⟩)); obtain ⟨wD, hwD⟩ : ∃ wD, wD = wA.drew := ⟨_, rfl⟩; have HBd : Hid (Below wA.heap.size wA wD) := (Lib.hid (by rw [hwD]; exact (Below.refl _ _).drew)); refine wp_region_noPanic ?_; refine wp_region_held_drew (S := fun W => (World.cell? W ⟨s, 0, none⟩ = some (.pointer (some ⟨m, 0, none⟩)) ∧ World.cell? W ⟨m, 0, none⟩ = some (.pointer (some ⟨S, 0, none⟩)) ∧ (World.cell? W ⟨KB, 0, none⟩ = some (.int .i64 3) ∧ World.cell? W ⟨KB, 1, none⟩ = some (.int .i64 k1) ∧ World.cell? W ⟨KB, 2, none⟩ = some (.int .i64 k2) ∧ World.cell? W ⟨KB, 3, none⟩ = some (.int .i64 k3) ∧ World.cell? W ⟨KB, 4, none⟩ = some (.int .u32 k4)))) (by kernel_rfl) (by rw [← hwD]; exact HSK.out _ HBd.out) (fun hHeld => ?_); rw [← hwD] at hHeld ⊢; clear hwD; refine wpAnyH_take (i := 0) (v := ?_) (by rfl) (by kernel_rfl) (by kernel_rfl) (by kernel_rfl) (fun _ _ _ h => h) (Or.inl ⟨by kernel_rfl, ?_⟩) (by assumption) ?_; rotate_left 1; (focus (intro w hSw; (try dsimp only at hSw); simp only [List.getElem_toArray, List.getElem_cons_succ, List.getElem_cons_zero]; all_goals go_simp; all_goals (try with_reducible rfl))); (try simp only [Act.put, List.getElem_toArray, List.getElem_cons_succ, List.getElem_cons_zero, List.setIfInBounds_toArray, List.set_cons_zero, List.set_cons_succ]); refine wpAnyH_take (i := 1) (v := ?_) (by rfl) (by kernel_rfl) (by kernel_rfl) (by kernel_rfl) (fun _ _ _ h => h) (Or.inl ⟨by kernel_rfl, ?_⟩) (by assumption) ?_; rotate_left 1; (focus (intro w hSw; (try dsimp only at hSw); simp only [List.getElem_toArray, List.getElem_cons_succ, List.getElem_cons_zero]; all_goals go_simp; all_goals (try with_reducible rfl))); (try simp only [Act.put, List.getElem_toArray, List.getElem_cons_succ, List.getElem_cons_zero, List.setIfInBounds_toArray, List.set_cons_zero, List.set_cons_succ]); refine wpAnyH_take (i := 2) (v := ?_) (by rfl) (by kernel_rfl) (by kernel_rfl) (by kernel_rfl) (fun _ _ _ h => h) (Or.inl ⟨by kernel_rfl, ?_⟩) (by assumption) ?_; rotate_left 1; (focus (intro w hSw; (try dsimp only at hSw); simp only [List.getElem_toArray, List.getElem_cons_succ, List.getElem_cons_zero]; all_goals go_simp; all_goals (try with_reducible rfl))); (try simp only [Act.put, List.getElem_toArray, List.getElem_cons_succ, List.getElem_cons_zero, List.setIfInBounds_toArray, List.set_cons_zero, List.set_cons_succ]); refine wpAnyH_take (i := 3) (v := ?_) (by rfl) (by kernel_rfl) (by kernel_rfl) (by kernel_rfl) (fun _ _ _ h => h) (Or.inl ⟨by kernel_rfl, ?_⟩) (by assumption) ?_; rotate_left 1; (focus (intro w hSw; (try dsimp only at hSw); simp only [List.getElem_toArray, List.getElem_cons_succ, List.getElem_cons_zero]; all_goals go_simp; all_goals (try with_reducible rfl))); (try simp only [Act.put, List.getElem_toArray, List.getElem_cons_succ, List.getElem_cons_zero, List.setIfInBounds_toArray, List.set_cons_zero, List.set_cons_succ]); refine wpAnyH_take (i := 4) (v := ?_) (by rfl) (by kernel_rfl) (by kernel_rfl) (by kernel_rfl) (fun _ _ _ h => h) (Or.inl ⟨by kernel_rfl, ?_⟩) (by assumption) ?_; rotate_left 1; (focus (intro w hSw; (try dsimp only at hSw); simp only [List.getElem_toArray, List.getElem_cons_succ, List.getElem_cons_zero]; all_goals go_simp; all_goals (try with_reducible rfl))); (try simp only [Act.put, List.getElem_toArray, List.getElem_cons_succ, List.getElem_cons_zero, List.setIfInBounds_toArray, List.set_cons_zero, List.set_cons_succ]); refine wpAnyH_take (i := 5) (v := ?_) (by rfl) (by kernel_rfl) (by kernel_rfl) (by kernel_rfl) (fun _ _ _ h => h) (Or.inl ⟨by kernel_rfl, ?_⟩) (by assumption) ?_; rotate_left 1; (focus (intro w hSw; (try dsimp only at hSw); simp only [List.getElem_toArray, List.getElem_cons_succ, List.getElem_cons_zero]; all_goals go_simp; all_goals (try with_reducible rfl))); (try simp only [Act.put, List.getElem_toArray, List.getElem_cons_succ, List.getElem_cons_zero, List.setIfInBounds_toArray, List.set_cons_zero, List.set_cons_succ]); refine wpAnyH_take (i := 6) (v := ?_) (by rfl) (by kernel_rfl) (by kernel_rfl) (by kernel_rfl) (fun _ _ _ h => h) (Or.inl ⟨by kernel_rfl, ?_⟩) (by assumption) ?_; rotate_left 1; (focus (intro w hSw; (try dsimp only at hSw); simp only [List.getElem_toArray, List.getElem_cons_succ, List.getElem_cons_zero]; all_goals go_simp; all_goals (try with_reducible rfl))); (try simp only [Act.put, List.getElem_toArray, List.getElem_cons_succ, List.getElem_cons_zero, List.setIfInBounds_toArray, List.set_cons_zero, List.set_cons_succ]); refine wpAnyH_take (i := 7) (v := ?_) (by rfl) (by kernel_rfl) (by kernel_rfl) (by kernel_rfl) (fun _ _ _ h => h) (Or.inl ⟨by kernel_rfl, ?_⟩) (by assumption) ?_; rotate_left 1; (focus (intro w hSw; (try dsimp only at hSw); simp only [List.getElem_toArray, List.getElem_cons_succ, List.getElem_cons_zero]; all_goals go_simp; all_goals (try with_reducible rfl))); (try simp only [Act.put, List.getElem_toArray, List.getElem_cons_succ, List.getElem_cons_zero, List.setIfInBounds_toArray, List.set_cons_zero, List.set_cons_succ]); refine wpAnyH_ready (rs := [8]) (by kernel_rfl) (by simp) ?_; refine AllReadyH.cons (by rfl) (fun K hK => ?_) AllReadyH.nil; rw [if_pos (by kernel_rfl)]; simp only [List.getElem_toArray, List.getElem_cons_succ, List.getElem_cons_zero]; go_wp2_with (first | (go_at_call 48; (with_reducible refine (slive_at 3 k1 k2 k3 k4 r hr _ (H.out.below (HA.out.1.trans (HBd.out.mono HA.out.1.size)))).mono ?_); rintro e w9 ⟨rfl, hb⟩; have HB9 := (Lib.hid (HBd.out.trans (hb.mono HBd.out.size))); clear hb)); refine hK.out _ _ (HSK.out _ HB9.out) (fun hHeld => ?_); clear hK K; (try simp only [Act.put, List.getElem_toArray, List.getElem_cons_succ, List.getElem_cons_zero, List.setIfInBounds_toArray, List.set_cons_zero, List.set_cons_succ]); refine wpAnyH_take (i := 9) (v := ?_) (by rfl) (by kernel_rfl) (by kernel_rfl) (by kernel_rfl) (fun _ _ _ h => h) (Or.inl ⟨by kernel_rfl, ?_⟩) (by assumption) ?_; rotate_left 1; (focus (intro w hSw; (try dsimp only at hSw); simp only [List.getElem_toArray, List.getElem_cons_succ, List.getElem_cons_zero]; all_goals go_simp; all_goals (try with_reducible rfl))); (try simp only [Act.put, List.getElem_toArray, List.getElem_cons_succ, List.getElem_cons_zero, List.setIfInBounds_toArray, List.set_cons_zero, List.set_cons_succ]); refine wpAnyH_done (by kernel_rfl) ?_ _; refine NoPanic.normal ?_; go_wp2_with fail; go_ret; exact ⟨rfl, HA.out.1.trans (HB9.out.mono HA.out.1.size)⟩
/-- A system of banks, nodes, pages, domains; no meter, no factory. -/
structure SJ (w0 w : World) (L : BLoc) (X : SLoc) (D : BSt) : Prop where
  k : BW w0 w L D
  t : MtAt w X.tB X.tP X.tp X.tR X.tG X.tn X.tn (fun _ => false) (fun _ => 0) (fun _ => 0) (fun _ => 0)
  f : PlAt 161 31 w X.fB X.fP X.fp X.fR X.fG X.fn X.fn (fun _ => false) (fun _ => 0) (fun _ b => zk b)
  b : SyB w X.s L.mb L.dP X.tP L.P X.fP X.q 0
  lo : L.T ≤ X.s ∧ L.T ≤ X.q ∧ X.s ≠ X.q ∧ L.T ≤ X.fB ∧ w0.heap.size ≤ X.tB ∧ L.dB ≤ X.tB ∧ L.dR < X.tB ∧ L.dG < X.tB ∧ X.tP < L.bB ∧ X.tp < L.bB ∧ X.tR < L.bB ∧ X.tG < L.bB
section
variable {w0 w w' : World} {L : BLoc} {X : SLoc} {D D' : BSt}
theorem SysNew.sj (h : SysNew w0 w L X) : SJ w0 w L X st0 := ⟨h.k, h.t, h.f, h.b, h.lo⟩
theorem PlAt.same {T : TypeId} {s base P p B G n c : Nat} {th : Nat → Bool} {vr : Nat → Int} {W : Nat → Nat → Value} (h : PlAt T s w base P p B G n c th vr W) (hs : w.heap.size ≤ w'.heap.size) (h1 : w'.heap[P]? = w.heap[P]?) (h2 : w'.heap[p]? = w.heap[p]?) (h3 : w'.heap[B]? = w.heap[B]?) (h4 : w'.heap[G]? = w.heap[G]?) : PlAt T s w' base P p B G n c th vr W :=
  ⟨Nat.lt_of_lt_of_le h.pl hs, h.pb, (World.cell?_of_block (a := ⟨P, 0, none⟩) h1).trans h.f0, (World.cell?_of_block (a := ⟨P, 1, none⟩) h1).trans h.f1, h.ar.same2 hs h2 h3, own_same h.row h4, h.n1, h.n2, h.n3, h.n4⟩
theorem MtAt.same {base P p B G n c : Nat} {th : Nat → Bool} {vr pr tk : Nat → Int} (h : MtAt w base P p B G n c th vr pr tk) (hs : w.heap.size ≤ w'.heap.size) (h1 : w'.heap[P]? = w.heap[P]?) (h2 : w'.heap[p]? = w.heap[p]?) (h3 : w'.heap[B]? = w.heap[B]?) (h4 : w'.heap[G]? = w.heap[G]?) : MtAt w' base P p B G n c th vr pr tk :=
  ⟨Nat.lt_of_lt_of_le h.pl hs, h.pb, (World.cell?_of_block (a := ⟨P, 0, none⟩) h1).trans h.f0, (World.cell?_of_block (a := ⟨P, 1, none⟩) h1).trans h.f1, h.ar.same2 hs h2 h3, own_same h.row h4, h.n1, h.n2, h.n3, h.n4⟩
theorem MtAt.low2 {base P p B G n c : Nat} {th : Nat → Bool} {vr pr tk : Nat → Int} (h : MtAt w base P p B G n c th vr pr tk) : base ≤ P ∧ base ≤ p ∧ base ≤ B ∧ base ≤ G ∧ P < w.heap.size ∧ p < w.heap.size ∧ B < w.heap.size ∧ G < w.heap.size := ⟨h.pb, h.ar.pb, h.ar.lt.1, (h.row.lt G rfl).1, h.pl, h.ar.pl, h.ar.lt.2, (h.row.lt G rfl).2⟩
theorem SJ.below (h : SJ w0 w L X D) (hb : Below w.heap.size w w') : SJ w0 w' L X D :=
  ⟨h.k.below hb, h.t.below hb, h.f.same hb.size (hb.block _ h.f.pl) (hb.block _ h.f.ar.pl) (hb.block _ h.f.ar.lt.2) (hb.block _ (h.f.row.lt _ rfl).2), h.b.below hb, h.lo⟩
theorem SJ.step (h : SJ w0 w L X D) (hk : BW w0 w' L D') (hu : UpM L w w') : SJ w0 w' L X D' := by
  have ht := h.t.low2
  have hl := h.lo
  have hz := hu.up.1
  have hT := h.k.tt.1
  have win : ∀ k, X.tB ≤ k → k < L.bB → k < w.heap.size → w'.heap[k]? = w.heap[k]? := fun k h1 h2 h3 => hu.win k (by omega) h2 (by omega) (by omega) h3
  have f1 := h.f.pb
  have f2 := h.f.ar.pb
  have f3 := h.f.ar.lt
  have f4 := h.f.row.lt X.fG rfl
  exact ⟨hk, h.t.same hz (win _ ht.1 (by omega) ht.2.2.2.2.1) (win _ ht.2.1 (by omega) ht.2.2.2.2.2.1) (win _ ht.2.2.1 (by omega) ht.2.2.2.2.2.2.1) (win _ ht.2.2.2.1 (by omega) ht.2.2.2.2.2.2.2), h.f.same hz (hu.up.2 _ (by omega) h.f.pl) (hu.up.2 _ (by omega) h.f.ar.pl) (hu.up.2 _ (by omega) f3.2) (hu.up.2 _ (by omega) f4.2), h.b.same hz (hu.up.2 _ hl.1 h.b.lt), hl⟩
end
end Go.Proofs.YthgjejclhdolmaaGreatDoor
namespace Go.Proofs.YthgjejclhdolmaaGreatDoor
open Go.ChangeShapes Go.WideShapes Go.ChangeAt Go.RowKit
set_option linter.unusedVariables false
theorem many_places (k : Int) : manyOf k = if placesOf k = 0 then 1 else placesOf k := by
  unfold manyOf placesOf
  repeat' split
  all_goals first | rfl | omega | (exfalso; simp_all)
theorem hid_many (k : Int) : hidOf k = manyOf k - 1 := by
  unfold hidOf
  rw [many_places]
  have := placesOf_ge k
  split <;> split <;> omega
theorem hver_most (k : Int) : hverOf k = mostOf k := by
  unfold hverOf mostOf
  rw [many_places]
  have := placesOf_ge k
  have p1 : placesOf k ≠ 1 := by unfold placesOf; repeat' split
                                 all_goals omega
  by_cases h : placesOf k = 0
  · rw [if_pos h, if_neg (by omega), if_neg (by omega)]
  · rw [if_neg h, if_pos (by omega), if_pos (by omega)]
theorem hr_rights (k : Int) : hrOf k = rightsOf k := by
  unfold hrOf rightsOf
  by_cases h : k = 2 ∨ k = 3
  · rw [if_pos h, if_pos (by simpa using h)]
  · rw [if_neg h, if_neg (by simpa using h)]
theorem data_most (k : Int) : dataMost k = dataOf k := by
  unfold dataMost dataOf
  repeat' split
  all_goals first | rfl | omega
theorem right_in (k0 k1 k2 k3 k4 : Int) : rightB k0 k1 k2 k3 k4 = decide ((0 ≤ k0 ∧ k0 ≤ 14) ∧ InB k0 k1 k2 k3 k4) := by
  unfold rightB InB
  rw [hid_many, hver_most, hr_rights, data_most]
  rw [Bool.eq_iff_iff]
  simp only [wB, Bool.and_eq_true, decide_eq_true_eq]
  omega
theorem right_of_code {k0 k1 k2 k3 k4 : Int} (h : codeOf k0 k1 k2 k3 k4 = 0) : rightB k0 k1 k2 k3 k4 = true := by
  rw [right_in, decide_eq_true_iff]
  unfold codeOf at h
  split at h
  · omega
  · split at h
    · exact ⟨by omega, by assumption⟩
    · omega
end Go.Proofs.YthgjejclhdolmaaGreatDoor
namespace Go.Proofs.YthgjejclhdolmaaGreatDoor
open Go.ChangeShapes Go.WideShapes Go.ChangeAt Go.RowKit
set_option linter.unusedVariables false
set_option linter.unusedSimpArgs false
def cnt01 (b : Bool) : Int := if b = true then 1 else 0
theorem note_put3 {w : World} {b : Nat} (h : w.rangeAt b 0 [.int .u32 0, .int .u32 0, .int .u32 0, .int .u32 0, .int .i64 0, .int .i64 0, .int .i64 0, .int .i64 0, .int .u32 0, .int .i64 0, .int .i64 0, .int .i64 0, .int .i64 0, .int .u32 0, .int .i64 0, .int .i64 0, .int .i64 0, .int .i64 0, .int .u32 0]) (x y z : Int) : (w.setCells b 1 [.int .u32 x, .int .u32 y, .int .u32 z]).rangeAt b 0 [.int .u32 0, .int .u32 x, .int .u32 y, .int .u32 z, .int .i64 0, .int .i64 0, .int .i64 0, .int .i64 0, .int .u32 0, .int .i64 0, .int .i64 0, .int .i64 0, .int .i64 0, .int .u32 0, .int .i64 0, .int .i64 0, .int .i64 0, .int .i64 0, .int .u32 0] :=
  range_set (range_set (range_set h 1 (.int .u32 x)) (1 + 1) (.int .u32 y)) (1 + 1 + 1) (.int .u32 z)
set_option maxRecDepth 100000 in
set_option maxHeartbeats 1000000 in
theorem owords_three (x y z : Int) (g c : Nat) (w : World) (hx : w.rangeAt g 0 [.int .u32 x, .int .u32 y, .int .u32 z]) : Calls Tryz.prog 73 #[.slice (some ⟨g, 0, none⟩) 3 c] w fun e w' => e = .returned (Value.agg #[.int .u32 0, .int .u32 x, .int .u32 y, .int .u32 z, .int .i64 0, .int .i64 0, .int .i64 0, .int .i64 0, .int .u32 0, .int .i64 0, .int .i64 0, .int .i64 0, .int .i64 0, .int .u32 0, .int .i64 0, .int .i64 0, .int .i64 0, .int .i64 0, .int .u32 0]) ∧ Below w.heap.size w w' := by
  have HG := Lib.hid (⟨cell_lt (CallC.cell hx 0 _ rfl), hx⟩ : g < w.heap.size ∧ w.rangeAt g 0 [.int .u32 x, .int .u32 y, .int .u32 z])
  clear hx
  go_enter Tryz.func73, Tryz.ntmps73
  go_upto_region 1 with fail
  generalize hA : World.alloc w _ = wA
  have HA : Hid (Below w.heap.size w wA ∧ World.there wA w.heap.size 0 19 ∧ w.heap.size < wA.heap.size) := Lib.hid (by rw [← hA]; exact ⟨(Below.refl _ _).alloc (Nat.le_refl _) _, nthere_new _ _ _ (by rfl) _, by simp⟩)
  clear hA
  go_upto_region 2 with (first
    | (go_at_call 64; (with_reducible refine (ofails_is 0 (by decide) (by decide) _).mono ?_); rintro e w2 ⟨rfl, hb⟩; have HB2 := Lib.hid hb; clear hb)
    | (refine wpList_store_mid (by rfl) _ _ _ (by rfl) w2.heap.size 0 ([.int .u32 0, .int .u32 0, .int .u32 0, .int .u32 0, .int .i64 0, .int .i64 0, .int .i64 0, .int .i64 0, .int .u32 0, .int .i64 0, .int .i64 0, .int .i64 0, .int .i64 0, .int .u32 0, .int .i64 0, .int .i64 0, .int .i64 0, .int .i64 0, .int .u32 0] : List Value).toArray (by rfl) (by rfl) (nthere_new _ _ 19 (by rfl) _) infoNote (note_one _ _ _ _ _ _ _ _ _ _ _ _ _ _ _ _ _ _ _) ?_))
  generalize hS : World.setCells _ w2.heap.size 0 _ = w3
  obtain ⟨nb, hnb⟩ : ∃ nb, nb = w2.heap.size := ⟨_, rfl⟩
  have HS : Hid (Below wA.heap.size wA w3 ∧ w3.rangeAt nb 0 [.int .u32 0, .int .u32 0, .int .u32 0, .int .u32 0, .int .i64 0, .int .i64 0, .int .i64 0, .int .i64 0, .int .u32 0, .int .i64 0, .int .i64 0, .int .i64 0, .int .i64 0, .int .u32 0, .int .i64 0, .int .i64 0, .int .i64 0, .int .i64 0, .int .u32 0] ∧ World.there w3 nb 0 19 ∧ wA.heap.size ≤ nb) := Lib.hid (by rw [← hS, hnb]; exact ⟨nbelow_cells (HB2.out.alloc HB2.out.size _) HB2.out.size _ _, World.rangeAt_setCells_same _ _ 0 [.int .u32 0, .int .u32 0, .int .u32 0, .int .u32 0, .int .i64 0, .int .i64 0, .int .i64 0, .int .i64 0, .int .u32 0, .int .i64 0, .int .i64 0, .int .i64 0, .int .i64 0, .int .u32 0, .int .i64 0, .int .i64 0, .int .i64 0, .int .i64 0, .int .u32 0] (nthere_new _ _ 19 (by rfl) _), World.there_setCells (nthere_new _ _ 19 (by rfl) _) _ _ _, HB2.out.size⟩)
  rw [← hnb]
  clear hS hnb
  have hsrc : ∀ j v, ([.int .u32 x, .int .u32 y, .int .u32 z] : List Value)[j]? = some v → w3.cell? ((⟨g, 0, none⟩ : Addr).add j) = some v := fun j v hv => by
    have e1 := HS.out.1.cell (p := ⟨g, 0 + j, none⟩) (Nat.lt_trans HG.out.1 HA.out.2.2)
    have e2 := HA.out.1.cell (p := ⟨g, 0 + j, none⟩) HG.out.1
    have e3 := e1.trans (e2.trans (HG.out.2 j v hv))
    by_cases hj : j = 0
    · subst hj
      simpa [Addr.add] using e3
    · simpa [Addr.add, hj] using e3
  have hrun := run_copy_cells (P := Tryz.prog) w3 40 40 3 22 nb 1 3 3 ⟨g, 0, none⟩ 3 c [.int .u32 x, .int .u32 y, .int .u32 z] Tryz.underlying40 (by kernel_rfl) rfl hsrc (fun j hj => by have h := (HS.out.2.2.1 (1 + j) (by simp at hj; omega)).1; rw [Nat.zero_add] at h; exact h) (fun j hj => by have h := (HS.out.2.2.1 (1 + j) (by simp at hj; omega)).2; rw [Nat.zero_add] at h; exact h) (by simp [Value.oneCell'])
  go_upto_region 3 with fail
  clear hrun hsrc
  generalize hS : World.setCells w3 _ _ _ = w4
  have HS4 : Hid (Below wA.heap.size wA w4 ∧ w4.rangeAt nb 0 [.int .u32 0, .int .u32 x, .int .u32 y, .int .u32 z, .int .i64 0, .int .i64 0, .int .i64 0, .int .i64 0, .int .u32 0, .int .i64 0, .int .i64 0, .int .i64 0, .int .i64 0, .int .u32 0, .int .i64 0, .int .i64 0, .int .i64 0, .int .i64 0, .int .u32 0]) := Lib.hid (by rw [← hS]; exact ⟨nbelow_cells HS.out.1 HS.out.2.2.2 _ _, note_put3 HS.out.2.1 x y z⟩)
  clear hS
  have HT4 : Hid (World.there w4 w.heap.size 0 19 ∧ Below w.heap.size w w4) := Lib.hid ⟨nthere_below HA.out.2.1 HS4.out.1 HA.out.2.2, HA.out.1.trans (HS4.out.1.mono (Nat.le_of_lt HA.out.2.2))⟩
  go_wp2_with (first
    | (refine wpList_load_mid (by rfl) _ _ (by rfl) nb 0 (by rfl) [.int .u32 0, .int .u32 x, .int .u32 y, .int .u32 z, .int .i64 0, .int .i64 0, .int .i64 0, .int .i64 0, .int .u32 0, .int .i64 0, .int .i64 0, .int .i64 0, .int .i64 0, .int .u32 0, .int .i64 0, .int .i64 0, .int .i64 0, .int .i64 0, .int .u32 0] _ HS4.out.2 Tryz.underlying49 rfl infoNote ?_)
    | (refine wpList_store_mid (by rfl) _ _ _ (by rfl) w.heap.size 0 ([.int .u32 0, .int .u32 x, .int .u32 y, .int .u32 z, .int .i64 0, .int .i64 0, .int .i64 0, .int .i64 0, .int .u32 0, .int .i64 0, .int .i64 0, .int .i64 0, .int .i64 0, .int .u32 0, .int .i64 0, .int .i64 0, .int .i64 0, .int .i64 0, .int .u32 0] : List Value).toArray (by rfl) (by rfl) HT4.out.1 infoNote (note_one _ _ _ _ _ _ _ _ _ _ _ _ _ _ _ _ _ _ _) ?_))
  generalize hS : World.setCells w4 _ _ _ = w5
  have H5 : Hid (Below w.heap.size w w5 ∧ w5.rangeAt w.heap.size 0 [.int .u32 0, .int .u32 x, .int .u32 y, .int .u32 z, .int .i64 0, .int .i64 0, .int .i64 0, .int .i64 0, .int .u32 0, .int .i64 0, .int .i64 0, .int .i64 0, .int .i64 0, .int .u32 0, .int .i64 0, .int .i64 0, .int .i64 0, .int .i64 0, .int .u32 0]) := Lib.hid (by rw [← hS]; exact ⟨nbelow_cells HT4.out.2 (Nat.le_refl _) _ _, World.rangeAt_setCells_same _ _ 0 [.int .u32 0, .int .u32 x, .int .u32 y, .int .u32 z, .int .i64 0, .int .i64 0, .int .i64 0, .int .i64 0, .int .u32 0, .int .i64 0, .int .i64 0, .int .i64 0, .int .i64 0, .int .u32 0, .int .i64 0, .int .i64 0, .int .i64 0, .int .i64 0, .int .u32 0] HT4.out.1⟩)
  have hld := nload rfl H5.out.2
  refine bodyPost_ret (v := (Value.agg #[.int .u32 0, .int .u32 x, .int .u32 y, .int .u32 z, .int .i64 0, .int .i64 0, .int .i64 0, .int .i64 0, .int .u32 0, .int .i64 0, .int .i64 0, .int .i64 0, .int .i64 0, .int .u32 0, .int .i64 0, .int .i64 0, .int .i64 0, .int .i64 0, .int .u32 0])) (by simp [results, Tryz.results73, Act.put, asAddr, hld]) rfl ⟨rfl, H5.out.1⟩
/-- The cells of a call, with two keys of its note. -/
structure CallJ (cs : List Value) (s : Nat) (o : Int) (m0 m1 m2 m3 m4 n0 n1 n2 n3 n4 : Int) : Prop where
  len : cs.length = 25
  c6 : cs[6]? = some (.int .u32 o)
  a0 : cs[10]? = some (.int .i64 m0)
  a1 : cs[11]? = some (.int .i64 m1)
  a2 : cs[12]? = some (.int .i64 m2)
  a3 : cs[13]? = some (.int .i64 m3)
  a4 : cs[14]? = some (.int .u32 m4)
  b0 : cs[15]? = some (.int .i64 n0)
  b1 : cs[16]? = some (.int .i64 n1)
  b2 : cs[17]? = some (.int .i64 n2)
  b3 : cs[18]? = some (.int .i64 n3)
  b4 : cs[19]? = some (.int .u32 n4)
theorem c25_j (s : Nat) (k0 k1 k2 k3 k4 : Int) (o a b c : Int) (m0 m1 m2 m3 m4 : Int) (n0 n1 n2 n3 n4 : Int) (p0 p1 p2 p3 p4 : Int) : CallJ ([.pointer (some ⟨s, 0, none⟩), .int .i64 k0, .int .i64 k1, .int .i64 k2, .int .i64 k3, .int .u32 k4, .int .u32 o, .int .u32 a, .int .u32 b, .int .u32 c, .int .i64 m0, .int .i64 m1, .int .i64 m2, .int .i64 m3, .int .u32 m4, .int .i64 n0, .int .i64 n1, .int .i64 n2, .int .i64 n3, .int .u32 n4, .int .i64 p0, .int .i64 p1, .int .i64 p2, .int .i64 p3, .int .u32 p4] : List Value) s o m0 m1 m2 m3 m4 n0 n1 n2 n3 n4 := ⟨rfl, rfl, rfl, rfl, rfl, rfl, rfl, rfl, rfl, rfl, rfl, rfl⟩
section
variable {cs : List Value} {s : Nat} {o m0 m1 m2 m3 m4 n0 n1 n2 n3 n4 : Int}
set_option maxRecDepth 100000 in
set_option maxHeartbeats 1000000 in
theorem osent_is (hc : Hid (CallJ cs s o m0 m1 m2 m3 m4 n0 n1 n2 n3 n4)) (w : World) : Calls Tryz.prog 79 #[.agg cs.toArray] w fun e w' => e = .returned (Value.agg #[.int .i64 m0, .int .i64 m1, .int .i64 m2, .int .i64 m3, .int .u32 m4]) ∧ Below w.heap.size w w' := by
  go_enter Tryz.func79, Tryz.ntmps79
  go_upto_region 1 with fail
  generalize hA : World.alloc w _ = wK
  have HK : Hid (Below w.heap.size w wK ∧ wK.rangeAt w.heap.size 0 cs ∧ wK.heap.size = w.heap.size + 1) := Lib.hid (by rw [← hA]; exact ⟨(Below.refl _ _).alloc (Nat.le_refl _) _, cbox _ _ _, by simp⟩)
  clear hA
  generalize hA : World.alloc wK _ = wA
  obtain ⟨R, hR⟩ : ∃ R, R = w.heap.size + 1 := ⟨_, rfl⟩
  have HA : Hid (Below w.heap.size w wA ∧ wA.rangeAt w.heap.size 0 cs ∧ KeyC wA R 0 0 0 0 0 ∧ w.heap.size ≤ R) := Lib.hid (by rw [← hA, hR, ← HK.out.2.2]; exact ⟨HK.out.1.alloc HK.out.1.size _, range_below HK.out.2.1 ((Below.refl _ _).alloc (Nat.le_refl _) _) (by have := HK.out.2.2; omega), KeyC.new _ _ _ _ _ _ _, HK.out.1.size⟩)
  rw [← hR]
  clear hA hR
  have p0 := CallC.cell HA.out.2.1 10 _ hc.out.a0; have p1 := CallC.cell HA.out.2.1 11 _ hc.out.a1; have p2 := CallC.cell HA.out.2.1 12 _ hc.out.a2; have p3 := CallC.cell HA.out.2.1 13 _ hc.out.a3; have p4 := CallC.cell HA.out.2.1 14 _ hc.out.a4
  have z0 := HA.out.2.2.1.c0; have z1 := HA.out.2.2.1.c1; have z2 := HA.out.2.2.1.c2; have z3 := HA.out.2.2.1.c3; have z4 := HA.out.2.2.1.c4; have f0 := HA.out.2.2.1.fr 0; have f1 := HA.out.2.2.1.fr 1; have f2 := HA.out.2.2.1.fr 2; have f3 := HA.out.2.2.1.fr 3; have f4 := HA.out.2.2.1.fr 4
  go_wp2_with fail
  have t := HA.out.2.2.1.set m0 m1 m2 m3 m4
  have t0 := t.c0
  have t1 := t.c1
  have t2 := t.c2
  have t3 := t.c3
  have t4 := t.c4
  refine bodyPost_ret (v := (Value.agg #[.int .i64 m0, .int .i64 m1, .int .i64 m2, .int .i64 m3, .int .u32 m4])) (by simp [results, Tryz.results79, go_sem, t0, t1, t2, t3, t4]) rfl ⟨rfl, ?_⟩
  have hR := HA.out.2.2.2
  exact ((((HA.out.1.setCell hR _).setCell hR _).setCell hR _).setCell hR _).setCell hR _
end
end Go.Proofs.YthgjejclhdolmaaGreatDoor
namespace Go.Proofs.YthgjejclhdolmaaGreatDoor
open Go.ChangeShapes Go.WideShapes Go.ChangeAt Go.RowKit
set_option linter.unusedVariables false
set_option linter.unusedSimpArgs false
section
variable {cs : List Value} {s : Nat} {k0 k1 k2 k3 k4 o x : Int}
end
end Go.Proofs.YthgjejclhdolmaaGreatDoor
namespace Go.Proofs.YthgjejclhdolmaaGreatDoor
open Go.ChangeShapes Go.WideShapes Go.ChangeAt Go.RowKit
set_option linter.unusedVariables false
/-- The cells of factories. -/
def mkW (sl : Nat → Bool) (ky : Nat → Nat → Nat → Int) : Nat → Nat → Value := fun i b => if b = 0 then .bool (sl i) else kval ((b - 1) % 5) (ky i ((b - 1) / 5) ((b - 1) % 5))
def MkAt (w : World) (base P p B G n c : Nat) (th : Nat → Bool) (vr : Nat → Int) (sl : Nat → Bool) (ky : Nat → Nat → Nat → Int) : Prop := PlAt 161 31 w base P p B G n c th vr (mkW sl ky)
/-- One part anew. -/
def updP (ky : Nat → Nat → Nat → Int) (i a : Nat) (y0 y1 y2 y3 y4 : Int) : Nat → Nat → Nat → Int := fun i' a' q => if i' = i ∧ a' = a then (if q = 0 then y0 else if q = 1 then y1 else if q = 2 then y2 else if q = 3 then y3 else y4) else ky i' a' q
section
variable {w w' : World} {base P p B G n c : Nat} {th th' : Nat → Bool} {vr_ vr' : Nat → Int} {sl : Nat → Bool} {ky : Nat → Nat → Nat → Int}
theorem MkAt.pl (h : MkAt w base P p B G n c th vr_ sl ky) : PlAt 161 31 w base P p B G n c th vr_ (mkW sl ky) := h
theorem MkAt.ar (h : MkAt w base P p B G n c th vr_ sl ky) : ArAt w base p B n c th vr_ := h.pl.ar
theorem MkAt.below (h : MkAt w base P p B G n c th vr_ sl ky) (hb : Below w.heap.size w w') : MkAt w' base P p B G n c th vr_ sl ky := h.pl.below hb
theorem MkAt.congr (h : MkAt w base P p B G n c th vr_ sl ky) (h1 : ∀ i, i < n → th i = th' i) (h2 : ∀ i, i < n → vr_ i = vr' i) : MkAt w base P p B G n c th' vr' sl ky := h.pl.congr h1 h2
theorem MkAt.s0 (h : MkAt w base P p B G n c th vr_ sl ky) (i : Nat) (hi : i < n) : w.cell? ⟨G, i * 31, none⟩ = some (.bool (sl i)) := h.pl.cell i 0 hi (by decide)
end
end Go.Proofs.YthgjejclhdolmaaGreatDoor
namespace Go.Proofs.YthgjejclhdolmaaGreatDoor
open Go.ChangeShapes Go.WideShapes Go.ChangeAt Go.RowKit
set_option linter.unusedVariables false
set_option linter.unusedSimpArgs false
section
variable {w0 w w' : World} {L : BLoc} {X : SLoc} {D : BSt}
theorem DMD.keep (h : DMD w L D) (hs : w.heap.size ≤ w'.heap.size) (hP : w'.heap[L.dP]? = w.heap[L.dP]?) (hp : w'.heap[L.dp]? = w.heap[L.dp]?) (hR : w'.heap[L.dR]? = w.heap[L.dR]?) (hG : w'.heap[L.dG]? = w.heap[L.dG]?) (hQ : w'.heap[L.dQ]? = w.heap[L.dQ]?) : DMD w' L D :=
  ⟨⟨Nat.lt_of_lt_of_le h.pl.pl hs, h.pl.pb, (World.cell?_of_block (a := ⟨L.dP, 0, none⟩) hP).trans h.pl.f0, (World.cell?_of_block (a := ⟨L.dP, 1, none⟩) hP).trans h.pl.f1, h.pl.ar.same2 hs hp hR, RowO.same (e := 0) h.pl.row hG, h.pl.n1, h.pl.n2, h.pl.n3, h.pl.n4⟩, (World.cell?_of_block (a := ⟨L.dP, 2, none⟩) hP).trans h.f2, RowO.same (e := 0) h.qs hQ, h.q1, h.q2, h.q3⟩
theorem BW.keep (h : BW w0 w L D) (hb : Below L.dB w w') (hP : w'.heap[L.dP]? = w.heap[L.dP]?) (hp : w'.heap[L.dp]? = w.heap[L.dp]?) (hR : w'.heap[L.dR]? = w.heap[L.dR]?) (hG : w'.heap[L.dG]? = w.heap[L.dG]?) (hQ : w'.heap[L.dQ]? = w.heap[L.dQ]?) (hk : ∀ k, L.bB ≤ k → k < L.T → w'.heap[k]? = w.heap[k]?) : BW w0 w' L D := by
  have hmd := h.md
  have ht := h.tt
  have hm := MMD.low h.m hb hmd.1 hmd.2.1 hmd.2.2
  have hd := DMD.keep h.d hb.size hP hp hR hG hQ
  have b1 := h.k.pb
  have b2 := h.k.ar.pb
  have b3 := h.k.ar.lt.1
  have b4 := h.k.ac.lt.1
  have b5 := h.k.t1.lt.1
  have b6 := h.k.t2.lt.1
  have b7 := h.k.t3.lt.1
  exact ⟨hm, hd, BkAt.keep h.k hb.size (hk _ b1 ht.2.1) (h.k.ar.same2 hb.size (hk _ b2 ht.2.2.1) (hk _ b3 ht.2.2.2.1)) (h.k.ac.same (hk _ b4 ht.2.2.2.2.1)) (h.k.t1.same (hk _ b5 ht.2.2.2.2.2.1)) (h.k.t2.same (hk _ b6 ht.2.2.2.2.2.2.1)) (h.k.t3.same (hk _ b7 ht.2.2.2.2.2.2.2)), hmd, h.db, h.dl, h.pk, h.nn, h.tt, Nat.le_trans h.tw hb.size⟩
end
/-- A system: what its banks hold, its meters, its factories. -/
structure SK (w0 w : World) (L : BLoc) (X : SLoc) (D : BSt) (mt : Nat → Bool) (mp mk : Nat → Int) (ft sl : Nat → Bool) (ky : Nat → Nat → Nat → Int) : Prop where
  k : BW w0 w L D
  t : MtAt w X.tB X.tP X.tp X.tR X.tG X.tn X.tn mt (fun _ => 0) mp mk
  f : PlAt 161 31 w X.fB X.fP X.fp X.fR X.fG X.fn X.fn ft (fun _ => 0) (mkW sl ky)
  b : SyB w X.s L.mb L.dP X.tP L.P X.fP X.q 0
  lo : L.T ≤ X.s ∧ L.T ≤ X.q ∧ X.s ≠ X.q ∧ L.T ≤ X.fB ∧ w0.heap.size ≤ X.tB ∧ L.dB ≤ X.tB ∧ L.dR < X.tB ∧ L.dG < X.tB ∧ X.tP < L.bB ∧ X.tp < L.bB ∧ X.tR < L.bB ∧ X.tG < L.bB
  sz : 0 < X.tn ∧ 0 < X.fn ∧ 0 < L.dn
section
variable {w0 w w' : World} {L : BLoc} {X : SLoc} {D : BSt} {mt mt' : Nat → Bool} {mp mk mp' mk' : Nat → Int} {ft sl ft' sl' : Nat → Bool} {ky ky' : Nat → Nat → Nat → Int}
theorem SJ.sk (h : SJ w0 w L X D) (sz : 0 < X.tn ∧ 0 < X.fn ∧ 0 < L.dn) : SK w0 w L X D (fun _ => false) (fun _ => 0) (fun _ => 0) (fun _ => false) (fun _ => false) (fun _ _ _ => 0) :=
  ⟨h.k, h.t, PlAt.congrW h.f (fun i j _ _ => by
    unfold zk mkW kval
    by_cases h0 : j = 0
    · rw [if_pos h0, if_pos h0]
    · rw [if_neg h0, if_neg h0]
      by_cases h5 : j % 5 = 0
      · rw [if_pos h5, if_pos (by omega)]
      · rw [if_neg h5, if_neg (by omega)]) (by decide), h.b, h.lo, sz⟩
theorem SK.below (h : SK w0 w L X D mt mp mk ft sl ky) (hb : Below w.heap.size w w') : SK w0 w' L X D mt mp mk ft sl ky :=
  ⟨h.k.below hb, h.t.below hb, h.f.same hb.size (hb.block _ h.f.pl) (hb.block _ h.f.ar.pl) (hb.block _ h.f.ar.lt.2) (hb.block _ (h.f.row.lt _ rfl).2), h.b.below hb, h.lo, h.sz⟩
theorem two_apart {w : World} {a b : Nat} {u v : Value} (h1 : w.cell? ⟨a, 0, none⟩ = some u) (h2 : w.cell? ⟨b, 0, none⟩ = some v) (hn : u ≠ v) : a ≠ b := fun e => hn (by
  subst e
  rw [h1] at h2
  exact Option.some.inj h2)
theorem SK.meter (h : SK w0 w L X D mt mp mk ft sl ky) (ht : MtAt w' X.tB X.tP X.tp X.tR X.tG X.tn X.tn mt' (fun _ => 0) mp' mk') (hb : PBelow w w' X.tR X.tG) : SK w0 w' L X D mt' mp' mk' ft sl ky := by
  have hl := h.lo
  have hlt := h.t.low2
  have hT := h.k.tt.1
  have c0 := h.t.ar.at0 0 h.sz.1
  have c1 := h.t.at0 0 h.sz.1
  rw [Nat.zero_mul] at c0 c1
  have dP0 := h.k.d.pl.f0
  have dp0 := h.k.d.pl.ar.fld
  have dQ0 : w.cell? ⟨L.dQ, 0, none⟩ = some (.slice none 0 0) := by
    have h1 := h.k.d.qs.cellAt 0 (by have := h.sz.2.2; omega)
    rw [h1]
    have h2 := flatS_at 2 (fun _ b => zq b) L.dn 0 0 h.sz.2.2 (by decide)
    simpa [zq] using h2
  have n1 := two_apart dP0 c0 (by simp)
  have n2 := two_apart dP0 c1 (by simp)
  have n3 := two_apart dp0 c0 (by simp)
  have n4 := two_apart dp0 c1 (by simp)
  have n5 := two_apart dQ0 c0 (by simp)
  have n6 := two_apart dQ0 c1 (by simp)
  have g := hb.2.2.2.2
  have hz := hb.2.2.2.1
  have q1 := h.k.d.pl.pl
  have q2 := h.k.d.pl.ar.pl
  have q3 := h.k.d.pl.ar.lt.2
  have q4 := h.k.d.pl.gl.2
  have q5 := (h.k.d.qs.lt L.dQ rfl).2
  have tw := h.k.tw
  have f1 := h.f.pb
  have f2 := h.f.ar.pb
  have f3 := h.f.ar.lt
  have f4 := h.f.row.lt X.fG rfl
  refine ⟨h.k.keep (hb.below (by omega) (by omega) (by omega)) (g _ q1 n1 n2) (g _ q2 n3 n4) (g _ q3 (by omega) (by omega)) (g _ q4 (by omega) (by omega)) (g _ q5 n5 n6) (fun k k1 k2 => g k (by omega) (by omega) (by omega)), ht, h.f.same hz (g _ h.f.pl (by omega) (by omega)) (g _ h.f.ar.pl (by omega) (by omega)) (g _ f3.2 (by omega) (by omega)) (g _ f4.2 (by omega) (by omega)), h.b.same hz (g _ h.b.lt (by omega) (by omega)), h.lo, h.sz⟩
end
end Go.Proofs.YthgjejclhdolmaaGreatDoor
namespace Go.Proofs.YthgjejclhdolmaaGreatDoor
open Go.ChangeShapes Go.WideShapes Go.ChangeAt Go.RowKit
set_option linter.unusedVariables false
set_option linter.unusedSimpArgs false
section
variable {cs nt : List Value} {s N : Nat} {k1 k2 k3 k4 o x : Int} {Q : World → Prop}
end
section
variable {s m d t b f q : Nat} {st : Int}
end
end Go.Proofs.YthgjejclhdolmaaGreatDoor
namespace Go.Proofs.YthgjejclhdolmaaGreatDoor
open Go.ChangeShapes Go.WideShapes Go.ChangeAt Go.RowKit
set_option linter.unusedVariables false
end Go.Proofs.YthgjejclhdolmaaGreatDoor
namespace Go.Proofs.YthgjejclhdolmaaGreatDoor
open Go.ChangeShapes Go.WideShapes Go.ChangeAt Go.RowKit
set_option linter.unusedVariables false
set_option linter.unusedSimpArgs false
/-- The errors that an answer tells apart, and that of a range: where they lie, what they are. -/
def G6 : List Nat := [6, 3, 1, 5, 7, 0]
def E6 (A : Nat → Addr) (w : World) : Prop := Errs 268 G6 A w
theorem E6.below {A : Nat → Addr} {w w' : World} (h : E6 A w) (hb : Below w.heap.size w w') : E6 A w' :=
  ⟨fun g hg => by
    obtain ⟨h1, h2, c, t, h3⟩ := h.1 g hg
    have hl : (A g).block < w.heap.size := by
      rcases Nat.lt_or_ge (A g).block w.heap.size with h' | h'
      · exact h'
      · simp [Array.getElem?_eq_none h'] at h3
    exact ⟨(hb.cell (p := ⟨g, 0, none⟩) h2).trans h1, Nat.lt_of_lt_of_le h2 hb.size, c, t, (hb.block _ hl).trans h3⟩, h.2⟩
theorem E6.c {A : Nat → Addr} {w : World} (h : E6 A w) (g : Nat) (hg : g ∈ G6) : w.cell? ⟨g, 0, none⟩ = some (eV (A g)) := (h.1 g hg).1
theorem E6.same {A : Nat → Addr} {w : World} (h : E6 A w) (g : Nat) (hg : g ∈ G6) : (binOp .eql 32 (eV (A g)) (eV (A g))).run Tryz.prog w = .ok (.bool true) w := by
  obtain ⟨i, hi, hc⟩ := Option.map_eq_some_iff.1 infoErrPtr
  obtain ⟨j, hj, hs⟩ := Option.map_eq_some_iff.1 infoErr
  exact run_eql_iface_ptr_same w (A g) Tryz.underlying32 Tryz.underlying268 hi hc hj
theorem E6.other {A : Nat → Addr} {w : World} (h : E6 A w) (g g' : Nat) (hg : g ∈ G6) (hg' : g' ∈ G6) (hne : g ≠ g') : (binOp .eql 32 (eV (A g)) (eV (A g'))).run Tryz.prog w = .ok (.bool false) w := by
  obtain ⟨i, hi, hc⟩ := Option.map_eq_some_iff.1 infoErrPtr
  obtain ⟨j, hj, hs⟩ := Option.map_eq_some_iff.1 infoErr
  obtain ⟨_, _, c1, t1, ha⟩ := h.1 g hg
  obtain ⟨_, _, c2, t2, hb⟩ := h.1 g' hg'
  exact run_eql_iface_ptr_other w Tryz.underlying32 Tryz.underlying268 hi hc hj (by rw [hs]; decide) (h.2 g hg g' hg' hne) ha hb
end Go.Proofs.YthgjejclhdolmaaGreatDoor
namespace Go.Proofs.YthgjejclhdolmaaGreatDoor
open Go.ChangeShapes Go.WideShapes Go.ChangeAt Go.RowKit
set_option linter.unusedVariables false
set_option linter.unusedSimpArgs false
/-- The cells of a call, with its second word and the key that was sent. -/
structure CallM (cs : List Value) (s : Nat) (k0 k1 k2 k3 k4 o x y : Int) : Prop extends CallC cs s k0 k1 k2 k3 k4 o x where
  c8 : cs[8]? = some (.int .u32 y)
section
variable {cs nt : List Value} {s mb S N : Nat} {k0 k1 k2 k3 k4 o x y : Int} {Q : World → Prop}
end
end Go.Proofs.YthgjejclhdolmaaGreatDoor
namespace Go.Proofs.YthgjejclhdolmaaGreatDoor
open Go.ChangeShapes Go.WideShapes Go.ChangeAt Go.RowKit
set_option linter.unusedVariables false
set_option linter.unusedSimpArgs false
section
variable {cs nt : List Value} {s d N : Nat} {k0 k1 k2 k3 k4 o x : Int} {Q : World → Prop}
set_option maxRecDepth 100000 in
set_option maxHeartbeats 1000000 in
theorem cput_ok (hnl : nt.length = 19) (hn1 : ∀ v, v ∈ nt → v.oneCell' = true) (hc : Hid (CallC cs s k0 k1 k2 k3 k4 o x)) (f : Nat → Value) (hf : Hid (∀ j, j < 107 → (f j).oneCell' = true)) (ev : Value) (w : World) (hN : N ≤ w.heap.size)
    (hs : w.cell? ⟨s, 1, none⟩ = some (.pointer (some ⟨d, 0, none⟩)))
    (hQ : ∀ w1 w2, Q w1 → Below N w1 w2 → Q w2) (hQc : ∀ W, Q W → W.cell? ⟨s, 1, none⟩ = some (.pointer (some ⟨d, 0, none⟩)))
    (hP : ∀ W, Below w.heap.size w W → Calls Tryz.prog 162 #[.pointer (some ⟨d, 0, none⟩), .int .i64 k1, .agg (rowL f).toArray] W fun e w' => e = .returned ev ∧ Q w' ∧ UpT N W w')
    (hT : ∀ W, Q W → Calls Tryz.prog 76 #[(Value.agg #[.int .u32 0, .int .u32 0, .int .u32 0, .int .u32 0, .int .i64 0, .int .i64 0, .int .i64 0, .int .i64 0, .int .u32 0, .int .i64 0, .int .i64 0, .int .i64 0, .int .i64 0, .int .u32 0, .int .i64 0, .int .i64 0, .int .i64 0, .int .i64 0, .int .u32 0]), ev] W fun e w' => e = .returned (.agg nt.toArray) ∧ Below W.heap.size W w') :
    Calls Tryz.prog 127 #[(.agg cs.toArray), .agg (rowL f).toArray] w fun e w' => e = .returned (.agg nt.toArray) ∧ Q w' ∧ UpT N w w' := by
  have HPt := Lib.hid hP
  have HTo := Lib.hid hT
  have HQ := Lib.hid hQ
  have HQc := Lib.hid hQc
  have HL := Lib.hid (⟨cell_lt hs, hs⟩ : s < w.heap.size ∧ w.cell? ⟨s, 1, none⟩ = some (.pointer (some ⟨d, 0, none⟩)))
  have hsz : nt.toArray.size = 19 := by simp [hnl]
  clear hP hT hs hQ hQc
  go_enter Tryz.func127, Tryz.ntmps127; go_upto_region 1 with fail; generalize hA : World.alloc w _ = wK; obtain ⟨C, hC⟩ : ∃ C, C = w.heap.size := ⟨_, rfl⟩; have HK : Hid (Below w.heap.size w wK ∧ wK.rangeAt C 0 cs ∧ wK.heap.size = C + 1) := Lib.hid (by rw [← hA, hC]; exact ⟨(Below.refl _ _).alloc (Nat.le_refl _) _, cbox _ _ _, by simp⟩); have HCl : Hid (w.heap.size ≤ C) := Lib.hid (by rw [hC]; exact Nat.le_refl _); rw [← hC]; clear hA hC; generalize hA : World.alloc wK _ = wX; obtain ⟨J, hJ⟩ : ∃ J, J = C + 1 := ⟨_, rfl⟩; have HX : Hid (Below w.heap.size w wX ∧ wX.rangeAt C 0 cs ∧ wX.rangeAt J 0 (rowL f) ∧ C < J ∧ wX.heap.size = J + 1) := Lib.hid (by rw [← hA, hJ, ← HK.out.2.2]; exact ⟨HK.out.1.alloc HK.out.1.size _, range_below HK.out.2.1 ((Below.refl _ _).alloc (Nat.le_refl _) _) (by have := HK.out.2.2; omega), (fun j v hv => by simp; simpa using hv), by have := HK.out.2.2; omega, by simp⟩); have HZ : Hid (∀ i, wX.frozen? ⟨J, i, none⟩ = false) := Lib.hid (by intro i; rw [← hA, hJ, ← HK.out.2.2]; simp); rw [show C + 1 = J from hJ.symm]; clear hA hJ; generalize hA : World.alloc wX _ = wA; have HFz : Hid (∀ i, wA.frozen? ⟨J, i, none⟩ = false) := Lib.hid (by intro i; rw [← hA]; exact (World.frozen?_of_block (a := ⟨J, i, none⟩) (((Below.refl _ _).alloc (Nat.le_refl _) _ : Below wX.heap.size wX _).block J (by have := HX.out.2.2.2; omega))).trans (HZ.out i)); obtain ⟨R, hR⟩ : ∃ R, R = J + 1 := ⟨_, rfl⟩; have HA : Hid (Below w.heap.size w wA ∧ wA.rangeAt C 0 cs ∧ wA.rangeAt J 0 (rowL f) ∧ World.there wA R 0 19 ∧ C < J ∧ J < R ∧ R < wA.heap.size) := Lib.hid (by rw [← hA, hR, ← HX.out.2.2.2.2]; exact ⟨HX.out.1.alloc HX.out.1.size _, range_below HX.out.2.1 ((Below.refl _ _).alloc (Nat.le_refl _) _) (by have := HX.out.2.2.2; omega), range_below HX.out.2.2.1 ((Below.refl _ _).alloc (Nat.le_refl _) _) (by have := HX.out.2.2.2; omega), nthere_new _ _ 19 (by rfl) _, HX.out.2.2.2.1, by have := HX.out.2.2.2; omega, by simp⟩); rw [← hR]; clear hA hR
  have HSr : Hid (∀ W, W.rangeAt C 0 cs → W.rangeAt J 0 (rowL f) → W.cell? ⟨s, 1, none⟩ = some (.pointer (some ⟨d, 0, none⟩)) → (World.cell? W ⟨C, 0, none⟩ = some (.pointer (some ⟨s, 0, none⟩)) ∧ World.cell? W ⟨s, 1, none⟩ = some (.pointer (some ⟨d, 0, none⟩)) ∧ World.cell? W ⟨C, 2, none⟩ = some (.int .i64 k1) ∧ World.rangeAt W J 0 (rowL f) ∧ World.rangeAt W C 0 cs)) := Lib.hid (fun W hr hj h1 => ⟨CallC.cell hr 0 _ hc.out.c0, h1, CallC.cell hr 2 _ hc.out.c2, hj, hr⟩)
  have HSC : Hid (∀ W, Below wA.heap.size wA W → (World.cell? W ⟨C, 0, none⟩ = some (.pointer (some ⟨s, 0, none⟩)) ∧ World.cell? W ⟨s, 1, none⟩ = some (.pointer (some ⟨d, 0, none⟩)) ∧ World.cell? W ⟨C, 2, none⟩ = some (.int .i64 k1) ∧ World.rangeAt W J 0 (rowL f) ∧ World.rangeAt W C 0 cs)) := Lib.hid (fun W hW => by
    have hz := HA.out.2.2.2.2
    have hb := HA.out.1.trans (hW.mono HA.out.1.size)
    exact HSr.out W (range_below HA.out.2.1 hW (by omega)) (range_below HA.out.2.2.1 hW (by omega)) ((hb.cell (p := ⟨s, 1, none⟩) HL.out.1).trans HL.out.2))
  have HCs : Hid (C < wA.heap.size ∧ N ≤ C ∧ N ≤ J ∧ J < wA.heap.size ∧ N ≤ R ∧ R < wA.heap.size ∧ N ≤ wA.heap.size) := Lib.hid (by have := HA.out.2.2.2.2; have := HCl.out; omega)
  obtain ⟨wD, hwD⟩ : ∃ wD, wD = wA.drew := ⟨_, rfl⟩
  have HBd : Hid (Below wA.heap.size wA wD) := Lib.hid (by rw [hwD]; exact (Below.refl _ _).drew)
  refine wp_region_noPanic ?_
  refine wp_region_held_drew (S := fun W => (World.cell? W ⟨C, 0, none⟩ = some (.pointer (some ⟨s, 0, none⟩)) ∧ World.cell? W ⟨s, 1, none⟩ = some (.pointer (some ⟨d, 0, none⟩)) ∧ World.cell? W ⟨C, 2, none⟩ = some (.int .i64 k1) ∧ World.rangeAt W J 0 (rowL f) ∧ World.rangeAt W C 0 cs)) (by kernel_rfl) (by rw [← hwD]; exact HSC.out _ HBd.out) (fun hHeld => ?_)
  rw [← hwD] at hHeld ⊢
  clear hwD
  refine wpAnyH_take (i := 1) (v := ?_) (by rfl) (by kernel_rfl) (by kernel_rfl) (by kernel_rfl) (fun _ _ _ h => h) (Or.inl ⟨by kernel_rfl, ?_⟩) (by assumption) ?_; rotate_left 1; (focus (intro w hSw; (try dsimp only at hSw); simp only [List.getElem_toArray, List.getElem_cons_succ, List.getElem_cons_zero]; all_goals go_simp; all_goals (try with_reducible rfl))); (try simp only [Act.put, List.getElem_toArray, List.getElem_cons_succ, List.getElem_cons_zero, List.setIfInBounds_toArray, List.set_cons_zero, List.set_cons_succ])
  refine wpAnyH_take (i := 2) (v := ?_) (by rfl) (by kernel_rfl) (by kernel_rfl) (by kernel_rfl) (fun _ _ _ h => h) (Or.inl ⟨by kernel_rfl, ?_⟩) (by assumption) ?_; rotate_left 1; (focus (intro w hSw; (try dsimp only at hSw); simp only [List.getElem_toArray, List.getElem_cons_succ, List.getElem_cons_zero]; all_goals go_simp; all_goals (try with_reducible rfl))); (try simp only [Act.put, List.getElem_toArray, List.getElem_cons_succ, List.getElem_cons_zero, List.setIfInBounds_toArray, List.set_cons_zero, List.set_cons_succ])
  refine wpAnyH_take (i := 3) (v := ?_) (by rfl) (by kernel_rfl) (by kernel_rfl) (by kernel_rfl) (fun _ _ _ h => h) (Or.inl ⟨by kernel_rfl, ?_⟩) (by assumption) ?_; rotate_left 1; (focus (intro w hSw; (try dsimp only at hSw); simp only [List.getElem_toArray, List.getElem_cons_succ, List.getElem_cons_zero]; all_goals go_simp; all_goals (try with_reducible rfl))); (try simp only [Act.put, List.getElem_toArray, List.getElem_cons_succ, List.getElem_cons_zero, List.setIfInBounds_toArray, List.set_cons_zero, List.set_cons_succ])
  refine wpAnyH_take (i := 4) (v := ?_) (by rfl) (by kernel_rfl) (by kernel_rfl) (by kernel_rfl) (fun _ _ _ h => h) (Or.inl ⟨by kernel_rfl, ?_⟩) (by assumption) ?_; rotate_left 1; (focus (intro w hSw; (try dsimp only at hSw); simp only [List.getElem_toArray, List.getElem_cons_succ, List.getElem_cons_zero]; all_goals go_simp; all_goals (try with_reducible rfl))); (try simp only [Act.put, List.getElem_toArray, List.getElem_cons_succ, List.getElem_cons_zero, List.setIfInBounds_toArray, List.set_cons_zero, List.set_cons_succ])
  refine wpAnyH_take (i := 5) (v := ?_) (by rfl) (by kernel_rfl) (by kernel_rfl) (by kernel_rfl) (fun _ _ _ h => h) (Or.inl ⟨by kernel_rfl, ?_⟩) (by assumption) ?_; rotate_left 1; (focus (intro w hSw; (try dsimp only at hSw); simp only [List.getElem_toArray, List.getElem_cons_succ, List.getElem_cons_zero]; all_goals go_simp; all_goals (try with_reducible rfl))); (try simp only [Act.put, List.getElem_toArray, List.getElem_cons_succ, List.getElem_cons_zero, List.setIfInBounds_toArray, List.set_cons_zero, List.set_cons_succ])
  refine wpAnyH_take (i := 6) (v := ?_) (by rfl) (by kernel_rfl) (by kernel_rfl) (by kernel_rfl) (fun _ _ _ h => h) (Or.inl ⟨by kernel_rfl, ?_⟩) (by assumption) ?_; rotate_left 1; (focus (intro w hSw; (try dsimp only at hSw); simp only [List.getElem_toArray, List.getElem_cons_succ, List.getElem_cons_zero]; all_goals go_simp; all_goals (try with_reducible rfl))); (try simp only [Act.put, List.getElem_toArray, List.getElem_cons_succ, List.getElem_cons_zero, List.setIfInBounds_toArray, List.set_cons_zero, List.set_cons_succ])
  refine wpAnyH_take (i := 7) (v := ?_) (by rfl) (by kernel_rfl) (by kernel_rfl) (by kernel_rfl) (fun _ _ _ h => h) (Or.inl ⟨by kernel_rfl, ?_⟩) (by assumption) ?_; rotate_left 1; (focus (intro w hSw; (try dsimp only at hSw); simp only [List.getElem_toArray, List.getElem_cons_succ, List.getElem_cons_zero]; all_goals go_simp; all_goals (try with_reducible rfl))); (try simp only [Act.put, List.getElem_toArray, List.getElem_cons_succ, List.getElem_cons_zero, List.setIfInBounds_toArray, List.set_cons_zero, List.set_cons_succ])
  refine wpAnyH_take (i := 8) (v := ?_) (by rfl) (by kernel_rfl) (by kernel_rfl) (by kernel_rfl) (fun _ _ _ h => h) (Or.inl ⟨by kernel_rfl, ?_⟩) (by assumption) ?_; rotate_left 1; (focus (intro w hSw; (try dsimp only at hSw); simp only [List.getElem_toArray, List.getElem_cons_succ, List.getElem_cons_zero]; all_goals go_simp; all_goals (try with_reducible rfl))); (try simp only [Act.put, List.getElem_toArray, List.getElem_cons_succ, List.getElem_cons_zero, List.setIfInBounds_toArray, List.set_cons_zero, List.set_cons_succ])
  refine wpAnyH_take (i := 9) (v := .agg (rowL f).toArray) (by rfl) (by kernel_rfl) (by kernel_rfl) (by kernel_rfl) (fun _ _ _ h => h) (yieldsIf_load_mid (by kernel_rfl) 128 (.tmp 3) (by rfl) J 0 (by rfl) (rowL f) _ (fun w h => h.2.2.2.1) Tryz.underlying128 rfl (by rw [rowL_len]; exact infoDomS)) (by assumption) ?_
  (try simp only [Act.put, List.getElem_toArray, List.getElem_cons_succ, List.getElem_cons_zero, List.setIfInBounds_toArray, List.set_cons_zero, List.set_cons_succ])
  refine wpAnyH_ready (rs := [0]) (by kernel_rfl) (by simp) ?_; refine AllReadyH.cons (by rfl) (fun K hK => ?_) AllReadyH.nil; rw [if_pos (by kernel_rfl)]; simp only [List.getElem_toArray, List.getElem_cons_succ, List.getElem_cons_zero]
  go_wp2_with (first | (go_at_call 73; (with_reducible refine (owords_none _).mono ?_); rintro e w2 ⟨rfl, hb⟩; have HB2 := Lib.hid (HBd.out.trans (hb.mono HBd.out.size)); clear hb))
  refine hK.out _ _ (HSC.out _ HB2.out) (fun hHeld => ?_)
  clear hK K
  (try simp only [Act.put, List.getElem_toArray, List.getElem_cons_succ, List.getElem_cons_zero, List.setIfInBounds_toArray, List.set_cons_zero, List.set_cons_succ])
  refine wpAnyH_ready (rs := [10]) (by kernel_rfl) (by simp) ?_; refine AllReadyH.cons (by rfl) (fun K hK => ?_) AllReadyH.nil; rw [if_pos (by kernel_rfl)]; simp only [List.getElem_toArray, List.getElem_cons_succ, List.getElem_cons_zero]
  go_wp2_with (first | (go_at_call 162; (with_reducible refine (HPt.out _ (HA.out.1.trans (HB2.out.mono HA.out.1.size))).mono ?_); rintro e w4 ⟨rfl, hq, hu⟩; have H4 : Hid (Q w4 ∧ UpT N wA w4) := Lib.hid ⟨hq, (UpT.below HB2.out).trans hu⟩; clear hq hu))
  have HR4 : Hid (w4.rangeAt C 0 cs ∧ w4.rangeAt J 0 (rowL f) ∧ World.there w4 R 0 19) := Lib.hid ⟨range_same HA.out.2.1 (H4.out.2.2 C HCs.out.2.1 HCs.out.1), range_same HA.out.2.2.1 (H4.out.2.2 J HCs.out.2.2.1 HCs.out.2.2.2.1), nthere_same HA.out.2.2.2.1 (H4.out.2.2 R HCs.out.2.2.2.2.1 HCs.out.2.2.2.2.2.1)⟩
  refine hK.out _ _ (HSr.out _ HR4.out.1 HR4.out.2.1 (HQc.out _ H4.out.1)) (fun hHeld => ?_)
  clear hK K
  (try simp only [Act.put, List.getElem_toArray, List.getElem_cons_succ, List.getElem_cons_zero, List.setIfInBounds_toArray, List.set_cons_zero, List.set_cons_succ])
  refine wpAnyH_ready (rs := [11]) (by kernel_rfl) (by simp) ?_; refine AllReadyH.cons (by rfl) (fun K hK => ?_) AllReadyH.nil; rw [if_pos (by kernel_rfl)]; simp only [List.getElem_toArray, List.getElem_cons_succ, List.getElem_cons_zero]
  go_wp2_with (first | (go_at_call 76; (with_reducible refine (HTo.out _ H4.out.1).mono ?_); rintro e w5 ⟨rfl, hb⟩; have H5 : Hid (Q w5 ∧ UpT N wA w5 ∧ w5.rangeAt C 0 cs ∧ w5.rangeAt J 0 (rowL f) ∧ World.there w5 R 0 19) := Lib.hid ⟨HQ.out _ _ H4.out.1 (hb.mono (Nat.le_trans HCs.out.2.2.2.2.2.2 H4.out.2.1)), H4.out.2.trans (UpT.below hb), range_below HR4.out.1 hb (Nat.lt_of_lt_of_le HCs.out.1 H4.out.2.1), range_below HR4.out.2.1 hb (Nat.lt_of_lt_of_le HCs.out.2.2.2.1 H4.out.2.1), nthere_below HR4.out.2.2 hb (Nat.lt_of_lt_of_le HCs.out.2.2.2.2.2.1 H4.out.2.1)⟩; clear hb))
  refine hK.out _ _ (HSr.out _ H5.out.2.2.1 H5.out.2.2.2.1 (HQc.out _ H5.out.1)) (fun hHeld => ?_)
  clear hK K
  (try simp only [Act.put, List.getElem_toArray, List.getElem_cons_succ, List.getElem_cons_zero, List.setIfInBounds_toArray, List.set_cons_zero, List.set_cons_succ])
  refine wpAnyH_ready (rs := [12]) (by kernel_rfl) (by simp) ?_; refine AllReadyH.cons (by rfl) (fun K hK => ?_) AllReadyH.nil; rw [if_pos (by kernel_rfl)]; simp only [List.getElem_toArray, List.getElem_cons_succ, List.getElem_cons_zero]
  refine wp_store_mid 49 (Operand.tmp 4) (Operand.tmp 16) (by rfl) R 0 nt.toArray (by rfl) (by rfl) (by rw [hsz]; exact H5.out.2.2.2.2) (by rw [hsz]; exact infoNote) (all_one hn1) ?_
  have hRn : w.heap.size ≤ R := by have := HA.out.2.2.2.2; have := HCl.out; omega
  have HCR : C ≠ R := by have := HA.out.2.2.2.2; omega
  have HJR : J ≠ R := by have := HA.out.2.2.2.2; omega
  generalize hS : World.setCells w5 _ _ _ = wS
  have HS : Hid (Below w.heap.size w5 wS ∧ wS.rangeAt R 0 nt ∧ wS.rangeAt C 0 cs ∧ wS.rangeAt J 0 (rowL f)) := Lib.hid (by rw [← hS]; exact ⟨nbelow_cells (Below.refl _ _) hRn _ _, World.rangeAt_setCells_same w5 R 0 nt (by rw [hnl]; exact H5.out.2.2.2.2), World.rangeAt_setCells_apart H5.out.2.2.1 R 0 _ (.inl HCR), World.rangeAt_setCells_apart H5.out.2.2.2.1 R 0 _ (.inl HJR)⟩)
  clear hS
  have HQS := Lib.hid (HQ.out _ _ H5.out.1 (HS.out.1.mono hN))
  refine hK.out _ _ (HSr.out _ HS.out.2.2.1 HS.out.2.2.2 (HQc.out _ HQS.out)) (fun hHeld => ?_)
  clear hK K
  (try simp only [Act.put, List.getElem_toArray, List.getElem_cons_succ, List.getElem_cons_zero, List.setIfInBounds_toArray, List.set_cons_zero, List.set_cons_succ])
  refine wpAnyH_done (by kernel_rfl) ?_ _
  refine NoPanic.normal ?_
  go_wp2_with fail
  have hld := nload hnl HS.out.2.1
  refine bodyPost_ret (v := (.agg nt.toArray)) (by simp [results, Tryz.results127, Act.put, asAddr, hld]) rfl ⟨rfl, HQS.out, ((UpT.below HA.out.1).trans H5.out.2.1).low HS.out.1 (Nat.le_refl _)⟩
end
end Go.Proofs.YthgjejclhdolmaaGreatDoor
namespace Go.Proofs.YthgjejclhdolmaaGreatDoor
open Go.ChangeShapes Go.WideShapes Go.ChangeAt Go.RowKit
set_option linter.unusedVariables false
set_option linter.unusedSimpArgs false
/-- A row with another cell. -/
def uF (f : Nat → Value) (i : Nat) (v : Value) : Nat → Value := fun j => if j = i then v else f j
theorem uF_one {f : Nat → Value} (h : ∀ j, j < 107 → (f j).oneCell' = true) (i : Nat) (v : Value) (hv : v.oneCell' = true) : ∀ j, j < 107 → (uF f i v j).oneCell' = true := fun j hj => by
  unfold uF; split
  · exact hv
  · exact h j hj
theorem rowL_set (f : Nat → Value) (i : Nat) (v : Value) : (rowL f).set i v = rowL (uF f i v) := by
  apply List.ext_getElem?
  intro j
  rw [List.getElem?_set]
  unfold rowL uF
  by_cases e : i = j
  · subst e
    by_cases h : i < 107
    · simp [h]
    · simp [h]
  · simp only [e, if_false]
    by_cases h : j < 107
    · simp [h, Ne.symm e]
    · simp [h]
theorem range_uF {w : World} {b : Nat} {f : Nat → Value} (h : w.rangeAt b 0 (rowL f)) (i : Nat) (v : Value) : (w.setCell ⟨b, i, none⟩ v).rangeAt b 0 (rowL (uF f i v)) := by
  rw [← rowL_set]; exact range_set h i v
theorem rangeD {w : World} {b : Nat} {f : Nat → Value} (h : w.rangeAt b 0 (rowL f)) (j : Nat) (hj : j < 107) : w.cell? ⟨b, j, none⟩ = some (f j) := by
  have := h j (f j) (by unfold rowL; simp [hj])
  rwa [Nat.zero_add] at this
section
variable {cs nt : List Value} {s d N : Nat} {k0 k1 k2 k3 k4 o x : Int} {Q : World → Prop}
set_option maxRecDepth 100000 in
set_option maxHeartbeats 1000000 in
theorem cpart_6 (hc : Hid (CallC cs s k0 k1 k2 k3 k4 6 x)) (x0 : 0 ≤ x) (x1 : x ≤ 4294967295) (hnl : nt.length = 19) (hn1 : ∀ v, v ∈ nt → v.oneCell' = true) (f : Nat → Value) (hf : Hid (∀ j, j < 107 → (f j).oneCell' = true)) (ev : Value) (w : World) (hN : N ≤ w.heap.size) (hs : w.cell? ⟨s, 1, none⟩ = some (.pointer (some ⟨d, 0, none⟩))) (hQ : ∀ w1 w2, Q w1 → Below N w1 w2 → Q w2) (hQc : ∀ W, Q W → W.cell? ⟨s, 1, none⟩ = some (.pointer (some ⟨d, 0, none⟩))) (hP : ∀ W, Below w.heap.size w W → Calls Tryz.prog 162 #[.pointer (some ⟨d, 0, none⟩), .int .i64 k1, .agg (rowL (uF f 8 (.int .u32 x))).toArray] W fun e w' => e = .returned ev ∧ Q w' ∧ UpT N W w') (hT : ∀ W, Q W → Calls Tryz.prog 76 #[(Value.agg #[.int .u32 0, .int .u32 0, .int .u32 0, .int .u32 0, .int .i64 0, .int .i64 0, .int .i64 0, .int .i64 0, .int .u32 0, .int .i64 0, .int .i64 0, .int .i64 0, .int .i64 0, .int .u32 0, .int .i64 0, .int .i64 0, .int .i64 0, .int .i64 0, .int .u32 0]), ev] W fun e w' => e = .returned (.agg nt.toArray) ∧ Below W.heap.size W w') : Calls Tryz.prog 86 #[(.agg cs.toArray), .agg (rowL f).toArray] w fun e w' => e = .returned (.agg nt.toArray) ∧ Q w' ∧ UpT N w w' := by
  have HPt := Lib.hid hP
  have HTo := Lib.hid hT
  have HQ := Lib.hid hQ
  have HQc := Lib.hid hQc
  have HL := Lib.hid (⟨cell_lt hs, hs⟩ : s < w.heap.size ∧ w.cell? ⟨s, 1, none⟩ = some (.pointer (some ⟨d, 0, none⟩)))
  have HF1 : Hid (∀ j, j < 107 → (uF f 8 (.int .u32 x) j).oneCell' = true) := Lib.hid (uF_one hf.out 8 _ rfl)
  have hsz : nt.toArray.size = 19 := by simp [hnl]
  clear hP hT hs hQ hQc
  go_enter Tryz.func86, Tryz.ntmps86; go_upto_region 1 with fail; generalize hA : World.alloc w _ = wK; obtain ⟨C, hC⟩ : ∃ C, C = w.heap.size := ⟨_, rfl⟩; have HK : Hid (Below w.heap.size w wK ∧ wK.rangeAt C 0 cs ∧ wK.heap.size = C + 1) := Lib.hid (by rw [← hA, hC]; exact ⟨(Below.refl _ _).alloc (Nat.le_refl _) _, cbox _ _ _, by simp⟩); have HCl : Hid (w.heap.size ≤ C) := Lib.hid (by rw [hC]; exact Nat.le_refl _); rw [← hC]; clear hA hC; generalize hA : World.alloc wK _ = wX; obtain ⟨J, hJ⟩ : ∃ J, J = C + 1 := ⟨_, rfl⟩; have HX : Hid (Below w.heap.size w wX ∧ wX.rangeAt C 0 cs ∧ wX.rangeAt J 0 (rowL f) ∧ C < J ∧ wX.heap.size = J + 1) := Lib.hid (by rw [← hA, hJ, ← HK.out.2.2]; exact ⟨HK.out.1.alloc HK.out.1.size _, range_below HK.out.2.1 ((Below.refl _ _).alloc (Nat.le_refl _) _) (by have := HK.out.2.2; omega), (fun j v hv => by simp; simpa using hv), by have := HK.out.2.2; omega, by simp⟩); have HZ : Hid (∀ i, wX.frozen? ⟨J, i, none⟩ = false) := Lib.hid (by intro i; rw [← hA, hJ, ← HK.out.2.2]; simp); rw [show C + 1 = J from hJ.symm]; clear hA hJ; generalize hA : World.alloc wX _ = wA; have HFz : Hid (∀ i, wA.frozen? ⟨J, i, none⟩ = false) := Lib.hid (by intro i; rw [← hA]; exact (World.frozen?_of_block (a := ⟨J, i, none⟩) (((Below.refl _ _).alloc (Nat.le_refl _) _ : Below wX.heap.size wX _).block J (by have := HX.out.2.2.2; omega))).trans (HZ.out i)); obtain ⟨R, hR⟩ : ∃ R, R = J + 1 := ⟨_, rfl⟩; have HA : Hid (Below w.heap.size w wA ∧ wA.rangeAt C 0 cs ∧ wA.rangeAt J 0 (rowL f) ∧ World.there wA R 0 19 ∧ C < J ∧ J < R ∧ R < wA.heap.size) := Lib.hid (by rw [← hA, hR, ← HX.out.2.2.2.2]; exact ⟨HX.out.1.alloc HX.out.1.size _, range_below HX.out.2.1 ((Below.refl _ _).alloc (Nat.le_refl _) _) (by have := HX.out.2.2.2; omega), range_below HX.out.2.2.1 ((Below.refl _ _).alloc (Nat.le_refl _) _) (by have := HX.out.2.2.2; omega), nthere_new _ _ 19 (by rfl) _, HX.out.2.2.2.1, by have := HX.out.2.2.2; omega, by simp⟩); rw [← hR]; clear hA hR
  have q6 := CallC.cell HA.out.2.1 6 _ hc.out.c6
  go_upto_region 9 with (first
    | (refine wpList_load_mid (by rfl) _ _ (by rfl) C 0 (by rfl) cs _ HA.out.2.1 Tryz.underlying84 rfl (by rw [hc.out.len]; exact infoCall) ?_)
    | (go_at_call 80; (with_reducible refine (oword_is hc _).mono ?_); rintro e w2 ⟨rfl, hb⟩; have H2 : Hid (Below w.heap.size w w2 ∧ w2.rangeAt C 0 cs ∧ w2.rangeAt J 0 (rowL f) ∧ World.there w2 R 0 19 ∧ R < w2.heap.size) := Lib.hid (by have hz := HA.out.2.2.2.2; exact ⟨HA.out.1.trans (hb.mono HA.out.1.size), range_below HA.out.2.1 hb (by omega), range_below HA.out.2.2.1 hb (by omega), nthere_below HA.out.2.2.2.1 hb (by omega), Nat.lt_of_lt_of_le hz.2.2 hb.size⟩); have z8 := (World.frozen?_of_block (a := ⟨J, 8, none⟩) (hb.block J (by have hz := HA.out.2.2.2.2; omega))).trans (HFz.out 8); clear hb; have j8 := rangeD H2.out.2.2.1 8 (by decide)))
  generalize hw3 : World.setCell w2 _ _ = w3
  have H3 : Hid (Below w.heap.size w w3 ∧ w3.rangeAt C 0 cs ∧ w3.rangeAt J 0 (rowL (uF f 8 (.int .u32 x)))) := Lib.hid (by
    have hz := HA.out.2.2.2.2
    have hcl := HCl.out
    rw [← hw3]
    exact ⟨H2.out.1.setCell (show w.heap.size ≤ J by omega) _, fun j u hj => (World.cell?_setCell_other _ _ _ _ (by simp <;> omega)).trans (H2.out.2.1 j u hj), range_uF H2.out.2.2.1 8 _⟩)
  have HT3 : Hid (World.there w3 R 0 19) := Lib.hid (by
    have hz := HA.out.2.2.2.2
    rw [← hw3]
    exact nthere_same H2.out.2.2.2.1 (Below.heap_setCell _ _ _ _ (show R ≠ J by omega)))
  have HNR : Hid (N ≤ R ∧ R < w3.heap.size) := Lib.hid (by
    have hz := HA.out.2.2.2.2
    have hcl := HCl.out
    refine ⟨by omega, ?_⟩
    rw [← hw3]; simpa using H2.out.2.2.2.2)
  clear hw3 j8 z8 q6
  go_wp2_with (first
    | (refine wpList_load_mid (by rfl) _ _ (by rfl) C 0 (by rfl) cs _ H3.out.2.1 Tryz.underlying84 rfl (by rw [hc.out.len]; exact infoCall) ?_)
    | (refine wpList_load_mid (by rfl) _ _ (by rfl) J 0 (by rfl) (rowL (uF f 8 (.int .u32 x))) _ H3.out.2.2 Tryz.underlying128 rfl (by rw [rowL_len]; exact infoDomS) ?_)
    | (go_at_call 127; go_loud ((with_reducible refine (cput_ok hnl hn1 hc (uF f 8 (.int .u32 x)) HF1 ev _ (Nat.le_trans hN (H3.out.1).size) (((H3.out.1).cell (p := ⟨s, 1, none⟩) HL.out.1).trans HL.out.2) HQ.out HQc.out (fun W hb => HPt.out W ((H3.out.1).trans (hb.mono (H3.out.1).size))) HTo.out).mono ?_); rintro e w5 ⟨rfl, hq, hu⟩; have H5 : Hid (Q w5 ∧ UpT N w w5) := Lib.hid ⟨hq, (UpT.below (H3.out.1)).trans hu⟩; have HT5 : Hid (World.there w5 R 0 19) := Lib.hid (nthere_same HT3.out (hu.2 R HNR.out.1 HNR.out.2)); clear hq hu))
    | (refine wpList_store_mid (by rfl) _ _ _ (by rfl) R 0 nt.toArray (by rfl) (by rfl) (by rw [hsz]; exact HT5.out) (by rw [hsz]; exact infoNote) (all_one hn1) ?_))
  have hRn : w.heap.size ≤ R := (by have := HA.out.2.2.2.2; have := HCl.out; omega); generalize hS : World.setCells w5 _ _ _ = wS; have HS : Hid (Below w.heap.size w5 wS ∧ wS.rangeAt R 0 nt) := Lib.hid (by rw [← hS]; exact ⟨nbelow_cells (Below.refl _ _) hRn _ _, World.rangeAt_setCells_same w5 R 0 nt (by rw [hnl]; exact HT5.out)⟩); clear hS; have HQS := Lib.hid (HQ.out _ _ H5.out.1 (HS.out.1.mono hN)); have hld := nload hnl HS.out.2; refine bodyPost_ret (v := (.agg nt.toArray)) (by simp [results, Tryz.results86, Act.put, asAddr, hld]) rfl ⟨rfl, HQS.out, H5.out.2.low HS.out.1 (Nat.le_refl _)⟩
end
end Go.Proofs.YthgjejclhdolmaaGreatDoor
namespace Go.Proofs.YthgjejclhdolmaaGreatDoor
open Go.ChangeShapes Go.WideShapes Go.ChangeAt Go.RowKit
set_option linter.unusedVariables false
set_option linter.unusedSimpArgs false
section
variable {cs nt : List Value} {s d q N : Nat} {k0 k1 k2 k3 k4 o x : Int} {Q Q1 : World → Prop}
set_option maxRecDepth 100000 in
set_option maxHeartbeats 1000000 in
theorem cstart_bad (hc : Hid (CallC cs s k0 k1 k2 k3 k4 o x)) (f : Nat → Value) (h9 : Hid (f 9 = .int .i64 3)) (w : World) : Calls Tryz.prog 87 #[(.agg cs.toArray), .agg (rowL f).toArray] w fun e w' => e = .returned (Value.agg #[.int .u32 3, .int .u32 0, .int .u32 0, .int .u32 0, .int .i64 0, .int .i64 0, .int .i64 0, .int .i64 0, .int .u32 0, .int .i64 0, .int .i64 0, .int .i64 0, .int .i64 0, .int .u32 0, .int .i64 0, .int .i64 0, .int .i64 0, .int .i64 0, .int .u32 0]) ∧ Below w.heap.size w w' := by
  go_enter Tryz.func87, Tryz.ntmps87; go_upto_region 1 with fail; generalize hA : World.alloc w _ = wK; obtain ⟨C, hC⟩ : ∃ C, C = w.heap.size := ⟨_, rfl⟩; have HK : Hid (Below w.heap.size w wK ∧ wK.rangeAt C 0 cs ∧ wK.heap.size = C + 1) := Lib.hid (by rw [← hA, hC]; exact ⟨(Below.refl _ _).alloc (Nat.le_refl _) _, cbox _ _ _, by simp⟩); have HCl : Hid (w.heap.size ≤ C) := Lib.hid (by rw [hC]; exact Nat.le_refl _); rw [← hC]; clear hA hC; generalize hA : World.alloc wK _ = wX; obtain ⟨J, hJ⟩ : ∃ J, J = C + 1 := ⟨_, rfl⟩; have HX : Hid (Below w.heap.size w wX ∧ wX.rangeAt C 0 cs ∧ wX.rangeAt J 0 (rowL f) ∧ C < J ∧ wX.heap.size = J + 1) := Lib.hid (by rw [← hA, hJ, ← HK.out.2.2]; exact ⟨HK.out.1.alloc HK.out.1.size _, range_below HK.out.2.1 ((Below.refl _ _).alloc (Nat.le_refl _) _) (by have := HK.out.2.2; omega), (fun j v hv => by simp; simpa using hv), by have := HK.out.2.2; omega, by simp⟩); have HZ : Hid (∀ i, wX.frozen? ⟨J, i, none⟩ = false) := Lib.hid (by intro i; rw [← hA, hJ, ← HK.out.2.2]; simp); rw [show C + 1 = J from hJ.symm]; clear hA hJ; generalize hA : World.alloc wX _ = wA; have HFz : Hid (∀ i, wA.frozen? ⟨J, i, none⟩ = false) := Lib.hid (by intro i; rw [← hA]; exact (World.frozen?_of_block (a := ⟨J, i, none⟩) (((Below.refl _ _).alloc (Nat.le_refl _) _ : Below wX.heap.size wX _).block J (by have := HX.out.2.2.2; omega))).trans (HZ.out i)); obtain ⟨R, hR⟩ : ∃ R, R = J + 1 := ⟨_, rfl⟩; have HA : Hid (Below w.heap.size w wA ∧ wA.rangeAt C 0 cs ∧ wA.rangeAt J 0 (rowL f) ∧ World.there wA R 0 19 ∧ C < J ∧ J < R ∧ R < wA.heap.size) := Lib.hid (by rw [← hA, hR, ← HX.out.2.2.2.2]; exact ⟨HX.out.1.alloc HX.out.1.size _, range_below HX.out.2.1 ((Below.refl _ _).alloc (Nat.le_refl _) _) (by have := HX.out.2.2.2; omega), range_below HX.out.2.2.1 ((Below.refl _ _).alloc (Nat.le_refl _) _) (by have := HX.out.2.2.2; omega), nthere_new _ _ 19 (by rfl) _, HX.out.2.2.2.1, by have := HX.out.2.2.2; omega, by simp⟩); rw [← hR]; clear hA hR
  have j9 : wA.cell? ⟨J, 9, none⟩ = some (.int .i64 3) := by rw [rangeD HA.out.2.2.1 9 (by decide), h9.out]
  go_wp2_with (first | (go_at_call 64; (with_reducible refine (ofails_is 3 (by decide) (by decide) _).mono ?_); rintro e w1 ⟨rfl, hb⟩; have HB1 := Lib.hid hb; have HT1 : Hid (World.there w1 R 0 19) := Lib.hid (nthere_below HA.out.2.2.2.1 hb HA.out.2.2.2.2.2.2); clear hb) | (refine wpList_store_mid (by rfl) _ _ _ (by rfl) R 0 ([.int .u32 3, .int .u32 0, .int .u32 0, .int .u32 0, .int .i64 0, .int .i64 0, .int .i64 0, .int .i64 0, .int .u32 0, .int .i64 0, .int .i64 0, .int .i64 0, .int .i64 0, .int .u32 0, .int .i64 0, .int .i64 0, .int .i64 0, .int .i64 0, .int .u32 0] : List Value).toArray (by rfl) (by rfl) HT1.out infoNote (note_one _ _ _ _ _ _ _ _ _ _ _ _ _ _ _ _ _ _ _) ?_)); have hRn : w.heap.size ≤ R := (by have := HA.out.2.2.2.2; have := HCl.out; omega); generalize hS : World.setCells w1 _ _ _ = wS; have HS : Hid (Below w.heap.size w wS ∧ wS.rangeAt R 0 [.int .u32 3, .int .u32 0, .int .u32 0, .int .u32 0, .int .i64 0, .int .i64 0, .int .i64 0, .int .i64 0, .int .u32 0, .int .i64 0, .int .i64 0, .int .i64 0, .int .i64 0, .int .u32 0, .int .i64 0, .int .i64 0, .int .i64 0, .int .i64 0, .int .u32 0]) := Lib.hid (by rw [← hS]; exact ⟨nbelow_cells (HA.out.1.trans (HB1.out.mono HA.out.1.size)) hRn _ _, World.rangeAt_setCells_same w1 R 0 [.int .u32 3, .int .u32 0, .int .u32 0, .int .u32 0, .int .i64 0, .int .i64 0, .int .i64 0, .int .i64 0, .int .u32 0, .int .i64 0, .int .i64 0, .int .i64 0, .int .i64 0, .int .u32 0, .int .i64 0, .int .i64 0, .int .i64 0, .int .i64 0, .int .u32 0] HT1.out⟩); have hld := nload rfl HS.out.2; refine bodyPost_ret (v := (Value.agg #[.int .u32 3, .int .u32 0, .int .u32 0, .int .u32 0, .int .i64 0, .int .i64 0, .int .i64 0, .int .i64 0, .int .u32 0, .int .i64 0, .int .i64 0, .int .i64 0, .int .i64 0, .int .u32 0, .int .i64 0, .int .i64 0, .int .i64 0, .int .i64 0, .int .u32 0])) (by simp [results, Tryz.results87, Act.put, asAddr, hld]) rfl ⟨rfl, HS.out.1⟩
set_option maxRecDepth 100000 in
set_option maxHeartbeats 1000000 in
theorem chalt_bad (hc : Hid (CallC cs s k0 k1 k2 k3 k4 o x)) (f : Nat → Value) (h9 : Hid (f 9 = .int .i64 4)) (w : World) : Calls Tryz.prog 88 #[(.agg cs.toArray), .agg (rowL f).toArray] w fun e w' => e = .returned (Value.agg #[.int .u32 3, .int .u32 0, .int .u32 0, .int .u32 0, .int .i64 0, .int .i64 0, .int .i64 0, .int .i64 0, .int .u32 0, .int .i64 0, .int .i64 0, .int .i64 0, .int .i64 0, .int .u32 0, .int .i64 0, .int .i64 0, .int .i64 0, .int .i64 0, .int .u32 0]) ∧ Below w.heap.size w w' := by
  go_enter Tryz.func88, Tryz.ntmps88; go_upto_region 1 with fail; generalize hA : World.alloc w _ = wK; obtain ⟨C, hC⟩ : ∃ C, C = w.heap.size := ⟨_, rfl⟩; have HK : Hid (Below w.heap.size w wK ∧ wK.rangeAt C 0 cs ∧ wK.heap.size = C + 1) := Lib.hid (by rw [← hA, hC]; exact ⟨(Below.refl _ _).alloc (Nat.le_refl _) _, cbox _ _ _, by simp⟩); have HCl : Hid (w.heap.size ≤ C) := Lib.hid (by rw [hC]; exact Nat.le_refl _); rw [← hC]; clear hA hC; generalize hA : World.alloc wK _ = wX; obtain ⟨J, hJ⟩ : ∃ J, J = C + 1 := ⟨_, rfl⟩; have HX : Hid (Below w.heap.size w wX ∧ wX.rangeAt C 0 cs ∧ wX.rangeAt J 0 (rowL f) ∧ C < J ∧ wX.heap.size = J + 1) := Lib.hid (by rw [← hA, hJ, ← HK.out.2.2]; exact ⟨HK.out.1.alloc HK.out.1.size _, range_below HK.out.2.1 ((Below.refl _ _).alloc (Nat.le_refl _) _) (by have := HK.out.2.2; omega), (fun j v hv => by simp; simpa using hv), by have := HK.out.2.2; omega, by simp⟩); have HZ : Hid (∀ i, wX.frozen? ⟨J, i, none⟩ = false) := Lib.hid (by intro i; rw [← hA, hJ, ← HK.out.2.2]; simp); rw [show C + 1 = J from hJ.symm]; clear hA hJ; generalize hA : World.alloc wX _ = wA; have HFz : Hid (∀ i, wA.frozen? ⟨J, i, none⟩ = false) := Lib.hid (by intro i; rw [← hA]; exact (World.frozen?_of_block (a := ⟨J, i, none⟩) (((Below.refl _ _).alloc (Nat.le_refl _) _ : Below wX.heap.size wX _).block J (by have := HX.out.2.2.2; omega))).trans (HZ.out i)); obtain ⟨R, hR⟩ : ∃ R, R = J + 1 := ⟨_, rfl⟩; have HA : Hid (Below w.heap.size w wA ∧ wA.rangeAt C 0 cs ∧ wA.rangeAt J 0 (rowL f) ∧ World.there wA R 0 19 ∧ C < J ∧ J < R ∧ R < wA.heap.size) := Lib.hid (by rw [← hA, hR, ← HX.out.2.2.2.2]; exact ⟨HX.out.1.alloc HX.out.1.size _, range_below HX.out.2.1 ((Below.refl _ _).alloc (Nat.le_refl _) _) (by have := HX.out.2.2.2; omega), range_below HX.out.2.2.1 ((Below.refl _ _).alloc (Nat.le_refl _) _) (by have := HX.out.2.2.2; omega), nthere_new _ _ 19 (by rfl) _, HX.out.2.2.2.1, by have := HX.out.2.2.2; omega, by simp⟩); rw [← hR]; clear hA hR
  have j9 : wA.cell? ⟨J, 9, none⟩ = some (.int .i64 4) := by rw [rangeD HA.out.2.2.1 9 (by decide), h9.out]
  go_wp2_with (first | (go_at_call 64; (with_reducible refine (ofails_is 3 (by decide) (by decide) _).mono ?_); rintro e w1 ⟨rfl, hb⟩; have HB1 := Lib.hid hb; have HT1 : Hid (World.there w1 R 0 19) := Lib.hid (nthere_below HA.out.2.2.2.1 hb HA.out.2.2.2.2.2.2); clear hb) | (refine wpList_store_mid (by rfl) _ _ _ (by rfl) R 0 ([.int .u32 3, .int .u32 0, .int .u32 0, .int .u32 0, .int .i64 0, .int .i64 0, .int .i64 0, .int .i64 0, .int .u32 0, .int .i64 0, .int .i64 0, .int .i64 0, .int .i64 0, .int .u32 0, .int .i64 0, .int .i64 0, .int .i64 0, .int .i64 0, .int .u32 0] : List Value).toArray (by rfl) (by rfl) HT1.out infoNote (note_one _ _ _ _ _ _ _ _ _ _ _ _ _ _ _ _ _ _ _) ?_)); have hRn : w.heap.size ≤ R := (by have := HA.out.2.2.2.2; have := HCl.out; omega); generalize hS : World.setCells w1 _ _ _ = wS; have HS : Hid (Below w.heap.size w wS ∧ wS.rangeAt R 0 [.int .u32 3, .int .u32 0, .int .u32 0, .int .u32 0, .int .i64 0, .int .i64 0, .int .i64 0, .int .i64 0, .int .u32 0, .int .i64 0, .int .i64 0, .int .i64 0, .int .i64 0, .int .u32 0, .int .i64 0, .int .i64 0, .int .i64 0, .int .i64 0, .int .u32 0]) := Lib.hid (by rw [← hS]; exact ⟨nbelow_cells (HA.out.1.trans (HB1.out.mono HA.out.1.size)) hRn _ _, World.rangeAt_setCells_same w1 R 0 [.int .u32 3, .int .u32 0, .int .u32 0, .int .u32 0, .int .i64 0, .int .i64 0, .int .i64 0, .int .i64 0, .int .u32 0, .int .i64 0, .int .i64 0, .int .i64 0, .int .i64 0, .int .u32 0, .int .i64 0, .int .i64 0, .int .i64 0, .int .i64 0, .int .u32 0] HT1.out⟩); have hld := nload rfl HS.out.2; refine bodyPost_ret (v := (Value.agg #[.int .u32 3, .int .u32 0, .int .u32 0, .int .u32 0, .int .i64 0, .int .i64 0, .int .i64 0, .int .i64 0, .int .u32 0, .int .i64 0, .int .i64 0, .int .i64 0, .int .i64 0, .int .u32 0, .int .i64 0, .int .i64 0, .int .i64 0, .int .i64 0, .int .u32 0])) (by simp [results, Tryz.results88, Act.put, asAddr, hld]) rfl ⟨rfl, HS.out.1⟩
end
end Go.Proofs.YthgjejclhdolmaaGreatDoor
namespace Go.Proofs.YthgjejclhdolmaaGreatDoor
open Go.ChangeShapes Go.WideShapes Go.ChangeAt Go.RowKit
set_option linter.unusedVariables false
set_option linter.unusedSimpArgs false
/-- A row with another key. -/
def uK (f : Nat → Value) (i : Nat) (m0 m1 m2 m3 m4 : Int) : Nat → Value := uF (uF (uF (uF (uF f i (.int .i64 m0)) (i + 1) (.int .i64 m1)) (i + 2) (.int .i64 m2)) (i + 3) (.int .i64 m3)) (i + 4) (.int .u32 m4)
theorem uK_one {f : Nat → Value} (h : ∀ j, j < 107 → (f j).oneCell' = true) (i : Nat) (m0 m1 m2 m3 m4 : Int) : ∀ j, j < 107 → (uK f i m0 m1 m2 m3 m4 j).oneCell' = true := uF_one (uF_one (uF_one (uF_one (uF_one h _ _ rfl) _ _ rfl) _ _ rfl) _ _ rfl) _ _ rfl
theorem range_uK {w : World} {b : Nat} {f : Nat → Value} (h : w.rangeAt b 0 (rowL f)) (i : Nat) (m0 m1 m2 m3 m4 : Int) : (w.setCells b i [.int .i64 m0, .int .i64 m1, .int .i64 m2, .int .i64 m3, .int .u32 m4]).rangeAt b 0 (rowL (uK f i m0 m1 m2 m3 m4)) := by
  simp only [World.setCells]
  exact range_uF (range_uF (range_uF (range_uF (range_uF h i _) (i + 1) _) (i + 2) _) (i + 3) _) (i + 4) _
theorem there_of {w : World} {b : Nat} {f : Nat → Value} (h : w.rangeAt b 0 (rowL f)) (hz : ∀ i, w.frozen? ⟨b, i, none⟩ = false) (o n : Nat) (hn : o + n ≤ 107) : w.there b o n := fun j hj => ⟨by rw [rangeD h (o + j) (by omega)]; rfl, hz _⟩
theorem infoKeyYn : (Tryz.prog.info? 24).map (·.size) = some 5 := by kernel_rfl
theorem key_oneYn (k0 k1 k2 k3 k4 : Int) : ∀ v, v ∈ ([.int .i64 k0, .int .i64 k1, .int .i64 k2, .int .i64 k3, .int .u32 k4] : List Value) → v.oneCell' = true := by simp [Value.oneCell']
section
variable {cs nt : List Value} {s d q N : Nat} {k0 k1 k2 k3 k4 o x : Int} {m0 m1 m2 m3 m4 n0 n1 n2 n3 n4 : Int} {Q Q1 : World → Prop}
set_option maxRecDepth 100000 in
set_option maxHeartbeats 1000000 in
theorem creg_1 (r : Nat) (hr : r < 16) (hx : Hid (x = (r : Int))) (hc : Hid (CallC cs s k0 k1 k2 k3 k4 1 x)) (hj : Hid (CallJ cs s 1 m0 m1 m2 m3 m4 n0 n1 n2 n3 n4)) (hnl : nt.length = 19) (hn1 : ∀ v, v ∈ nt → v.oneCell' = true) (f : Nat → Value) (hf : Hid (∀ j, j < 107 → (f j).oneCell' = true)) (ev : Value) (w : World) (hN : N ≤ w.heap.size) (hs : w.cell? ⟨s, 1, none⟩ = some (.pointer (some ⟨d, 0, none⟩))) (hQ : ∀ w1 w2, Q w1 → Below N w1 w2 → Q w2) (hQc : ∀ W, Q W → W.cell? ⟨s, 1, none⟩ = some (.pointer (some ⟨d, 0, none⟩))) (hP : ∀ W, Below w.heap.size w W → Calls Tryz.prog 162 #[.pointer (some ⟨d, 0, none⟩), .int .i64 k1, .agg (rowL (uK f (11 + r * 5) m0 m1 m2 m3 m4)).toArray] W fun e w' => e = .returned ev ∧ Q w' ∧ UpT N W w') (hT : ∀ W, Q W → Calls Tryz.prog 76 #[(Value.agg #[.int .u32 0, .int .u32 0, .int .u32 0, .int .u32 0, .int .i64 0, .int .i64 0, .int .i64 0, .int .i64 0, .int .u32 0, .int .i64 0, .int .i64 0, .int .i64 0, .int .i64 0, .int .u32 0, .int .i64 0, .int .i64 0, .int .i64 0, .int .i64 0, .int .u32 0]), ev] W fun e w' => e = .returned (.agg nt.toArray) ∧ Below W.heap.size W w') : Calls Tryz.prog 85 #[(.agg cs.toArray), .agg (rowL f).toArray] w fun e w' => e = .returned (.agg nt.toArray) ∧ Q w' ∧ UpT N w w' := by
  rw [hx.out] at hc
  have HPt := Lib.hid hP
  have HTo := Lib.hid hT
  have HQ := Lib.hid hQ
  have HQc := Lib.hid hQc
  have HL := Lib.hid (⟨cell_lt hs, hs⟩ : s < w.heap.size ∧ w.cell? ⟨s, 1, none⟩ = some (.pointer (some ⟨d, 0, none⟩)))
  have HF1 : Hid (∀ j, j < 107 → (uK f (11 + r * 5) m0 m1 m2 m3 m4 j).oneCell' = true) := Lib.hid (uK_one hf.out _ _ _ _ _ _)
  have hsz : nt.toArray.size = 19 := by simp [hnl]
  have r0 : (0 : Int) ≤ r := by omega
  have r1 : (r : Int) < 16 := by omega
  have hge : decide ((16 : Int) ≤ (r : Int)) = false := decide_eq_false (by omega)
  clear hP hT hs hQ hQc
  go_enter Tryz.func85, Tryz.ntmps85; go_upto_region 1 with fail; generalize hA : World.alloc w _ = wK; obtain ⟨C, hC⟩ : ∃ C, C = w.heap.size := ⟨_, rfl⟩; have HK : Hid (Below w.heap.size w wK ∧ wK.rangeAt C 0 cs ∧ wK.heap.size = C + 1) := Lib.hid (by rw [← hA, hC]; exact ⟨(Below.refl _ _).alloc (Nat.le_refl _) _, cbox _ _ _, by simp⟩); have HCl : Hid (w.heap.size ≤ C) := Lib.hid (by rw [hC]; exact Nat.le_refl _); rw [← hC]; clear hA hC; generalize hA : World.alloc wK _ = wX; obtain ⟨J, hJ⟩ : ∃ J, J = C + 1 := ⟨_, rfl⟩; have HX : Hid (Below w.heap.size w wX ∧ wX.rangeAt C 0 cs ∧ wX.rangeAt J 0 (rowL f) ∧ C < J ∧ wX.heap.size = J + 1) := Lib.hid (by rw [← hA, hJ, ← HK.out.2.2]; exact ⟨HK.out.1.alloc HK.out.1.size _, range_below HK.out.2.1 ((Below.refl _ _).alloc (Nat.le_refl _) _) (by have := HK.out.2.2; omega), (fun j v hv => by simp; simpa using hv), by have := HK.out.2.2; omega, by simp⟩); have HZ : Hid (∀ i, wX.frozen? ⟨J, i, none⟩ = false) := Lib.hid (by intro i; rw [← hA, hJ, ← HK.out.2.2]; simp); rw [show C + 1 = J from hJ.symm]; clear hA hJ; generalize hA : World.alloc wX _ = wA; have HFz : Hid (∀ i, wA.frozen? ⟨J, i, none⟩ = false) := Lib.hid (by intro i; rw [← hA]; exact (World.frozen?_of_block (a := ⟨J, i, none⟩) (((Below.refl _ _).alloc (Nat.le_refl _) _ : Below wX.heap.size wX _).block J (by have := HX.out.2.2.2; omega))).trans (HZ.out i)); obtain ⟨R, hR⟩ : ∃ R, R = J + 1 := ⟨_, rfl⟩; have HA : Hid (Below w.heap.size w wA ∧ wA.rangeAt C 0 cs ∧ wA.rangeAt J 0 (rowL f) ∧ World.there wA R 0 19 ∧ C < J ∧ J < R ∧ R < wA.heap.size) := Lib.hid (by rw [← hA, hR, ← HX.out.2.2.2.2]; exact ⟨HX.out.1.alloc HX.out.1.size _, range_below HX.out.2.1 ((Below.refl _ _).alloc (Nat.le_refl _) _) (by have := HX.out.2.2.2; omega), range_below HX.out.2.2.1 ((Below.refl _ _).alloc (Nat.le_refl _) _) (by have := HX.out.2.2.2; omega), nthere_new _ _ 19 (by rfl) _, HX.out.2.2.2.1, by have := HX.out.2.2.2; omega, by simp⟩); rw [← hR]; clear hA hR
  have q6 := CallC.cell HA.out.2.1 6 _ hc.out.c6
  go_upto_region 7 with (first
    | (refine wpList_load_mid (by rfl) _ _ (by rfl) C 0 (by rfl) cs _ HA.out.2.1 Tryz.underlying84 rfl (by rw [hc.out.len]; exact infoCall) ?_)
    | (go_at_call 80; (with_reducible refine (oword_is hc _).mono ?_); rintro e w2 ⟨rfl, hb⟩; have H2 : Hid (Below w.heap.size w w2 ∧ w2.rangeAt C 0 cs ∧ w2.rangeAt J 0 (rowL f) ∧ World.there w2 R 0 19 ∧ R < w2.heap.size ∧ ∀ i, w2.frozen? ⟨J, i, none⟩ = false) := Lib.hid (by have hz := HA.out.2.2.2.2; exact ⟨HA.out.1.trans (hb.mono HA.out.1.size), range_below HA.out.2.1 hb (by omega), range_below HA.out.2.2.1 hb (by omega), nthere_below HA.out.2.2.2.1 hb (by omega), Nat.lt_of_lt_of_le hz.2.2 hb.size, fun i => (World.frozen?_of_block (a := ⟨J, i, none⟩) (hb.block J (by omega))).trans (HFz.out i)⟩); clear hb q6; have q6 := CallC.cell H2.out.2.1 6 _ hc.out.c6)
    | (refine wpList_load_mid (by rfl) _ _ (by rfl) C 0 (by rfl) cs _ H2.out.2.1 Tryz.underlying84 rfl (by rw [hc.out.len]; exact infoCall) ?_)
    | (go_at_call 79; (with_reducible refine (osent_is hj _).mono ?_); rintro e w3 ⟨rfl, hb⟩; have H3 : Hid (Below w.heap.size w w3 ∧ w3.rangeAt C 0 cs ∧ w3.rangeAt J 0 (rowL f) ∧ World.there w3 R 0 19 ∧ R < w3.heap.size ∧ World.there w3 J (11 + r * 5) 5) := Lib.hid (by
        have hz := HA.out.2.2.2.2
        have h2 := H2.out.2.2.2.2.1
        have hrJ := range_below H2.out.2.2.1 hb (by omega)
        exact ⟨H2.out.1.trans (hb.mono H2.out.1.size), range_below H2.out.2.1 hb (by omega), hrJ, nthere_below H2.out.2.2.2.1 hb (by omega), Nat.lt_of_lt_of_le h2 hb.size, there_of hrJ (fun i => (World.frozen?_of_block (a := ⟨J, i, none⟩) (hb.block J (by omega))).trans (H2.out.2.2.2.2.2 i)) _ _ (by omega)⟩); clear hb)
    | (refine wpList_store_mid (by rfl) _ _ _ (by rfl) J (11 + r * 5) (#[.int .i64 m0, .int .i64 m1, .int .i64 m2, .int .i64 m3, .int .u32 m4] : Array Value) (by rfl) (by rfl) H3.out.2.2.2.2.2 infoKeyYn (all_one (key_oneYn m0 m1 m2 m3 m4)) ?_))
  generalize hw4 : World.setCells w3 _ _ _ = w4
  have H4 : Hid (Below w.heap.size w w4 ∧ w4.rangeAt C 0 cs ∧ w4.rangeAt J 0 (rowL (uK f (11 + r * 5) m0 m1 m2 m3 m4))) := Lib.hid (by
    have hz := HA.out.2.2.2.2
    have hcl := HCl.out
    rw [← hw4]
    exact ⟨nbelow_cells H3.out.1 (show w.heap.size ≤ J by omega) _ _, World.rangeAt_setCells_apart H3.out.2.1 J _ _ (.inl (by omega)), range_uK H3.out.2.2.1 _ _ _ _ _ _⟩)
  have HB34 : Hid (Below J w3 w4) := Lib.hid (by rw [← hw4]; exact nbelow_cells (Below.refl _ _) (Nat.le_refl _) _ _)
  have HT3 : Hid (World.there w4 R 0 19) := Lib.hid (by
    have hz := HA.out.2.2.2.2
    rw [← hw4]
    exact nthere_same H3.out.2.2.2.1 (by simp only [World.setCells]; exact ((((Below.heap_setCell _ _ _ _ (show R ≠ J by omega)).trans (Below.heap_setCell _ _ _ _ (show R ≠ J by omega))).trans (Below.heap_setCell _ _ _ _ (show R ≠ J by omega))).trans (Below.heap_setCell _ _ _ _ (show R ≠ J by omega))).trans (Below.heap_setCell _ _ _ _ (show R ≠ J by omega))))
  have HNR : Hid (N ≤ R ∧ R < w4.heap.size) := Lib.hid (by
    have hz := HA.out.2.2.2.2
    have hcl := HCl.out
    exact ⟨by omega, Nat.lt_of_lt_of_le H3.out.2.2.2.2.1 HB34.out.size⟩)
  clear hw4 q6
  go_wp2_with (first
    | (refine wpList_load_mid (by rfl) _ _ (by rfl) C 0 (by rfl) cs _ H4.out.2.1 Tryz.underlying84 rfl (by rw [hc.out.len]; exact infoCall) ?_)
    | (refine wpList_load_mid (by rfl) _ _ (by rfl) J 0 (by rfl) (rowL (uK f (11 + r * 5) m0 m1 m2 m3 m4)) _ H4.out.2.2 Tryz.underlying128 rfl (by rw [rowL_len]; exact infoDomS) ?_)
    | (go_at_call 127; go_loud ((with_reducible refine (cput_ok hnl hn1 hc (uK f (11 + r * 5) m0 m1 m2 m3 m4) HF1 ev _ (Nat.le_trans hN (H4.out.1).size) (((H4.out.1).cell (p := ⟨s, 1, none⟩) HL.out.1).trans HL.out.2) HQ.out HQc.out (fun W hb => HPt.out W ((H4.out.1).trans (hb.mono (H4.out.1).size))) HTo.out).mono ?_); rintro e w5 ⟨rfl, hq, hu⟩; have H5 : Hid (Q w5 ∧ UpT N w w5) := Lib.hid ⟨hq, (UpT.below (H4.out.1)).trans hu⟩; have HT5 : Hid (World.there w5 R 0 19) := Lib.hid (nthere_same HT3.out (hu.2 R HNR.out.1 HNR.out.2)); clear hq hu))
    | (refine wpList_store_mid (by rfl) _ _ _ (by rfl) R 0 nt.toArray (by rfl) (by rfl) (by rw [hsz]; exact HT5.out) (by rw [hsz]; exact infoNote) (all_one hn1) ?_))
  have hRn : w.heap.size ≤ R := (by have := HA.out.2.2.2.2; have := HCl.out; omega); generalize hS : World.setCells w5 _ _ _ = wS; have HS : Hid (Below w.heap.size w5 wS ∧ wS.rangeAt R 0 nt) := Lib.hid (by rw [← hS]; exact ⟨nbelow_cells (Below.refl _ _) hRn _ _, World.rangeAt_setCells_same w5 R 0 nt (by rw [hnl]; exact HT5.out)⟩); clear hS; have HQS := Lib.hid (HQ.out _ _ H5.out.1 (HS.out.1.mono hN)); have hld := nload hnl HS.out.2; refine bodyPost_ret (v := (.agg nt.toArray)) (by simp [results, Tryz.results85, Act.put, asAddr, hld]) rfl ⟨rfl, HQS.out, H5.out.2.low HS.out.1 (Nat.le_refl _)⟩
end
end Go.Proofs.YthgjejclhdolmaaGreatDoor
namespace Go.Proofs.YthgjejclhdolmaaGreatDoor
open Go.ChangeShapes Go.WideShapes Go.ChangeAt Go.RowKit
set_option linter.unusedVariables false
set_option linter.unusedSimpArgs false
section
variable {cs nt : List Value} {s d q N : Nat} {k0 k1 k2 k3 k4 o x : Int} {m0 m1 m2 m3 m4 p0 p1 p2 p3 p4 : Int}
set_option maxRecDepth 100000 in
set_option maxHeartbeats 1000000 in
theorem creg_bad (hx : 16 ≤ x) (hc : Hid (CallC cs s k0 k1 k2 k3 k4 o x)) (f : Nat → Value) (w : World) : Calls Tryz.prog 85 #[(.agg cs.toArray), .agg (rowL f).toArray] w fun e w' => e = .returned (Value.agg #[.int .u32 3, .int .u32 0, .int .u32 0, .int .u32 0, .int .i64 0, .int .i64 0, .int .i64 0, .int .i64 0, .int .u32 0, .int .i64 0, .int .i64 0, .int .i64 0, .int .i64 0, .int .u32 0, .int .i64 0, .int .i64 0, .int .i64 0, .int .i64 0, .int .u32 0]) ∧ Below w.heap.size w w' := by
  have hge : decide ((16 : Int) ≤ x) = true := decide_eq_true hx
  go_enter Tryz.func85, Tryz.ntmps85; go_upto_region 1 with fail; generalize hA : World.alloc w _ = wK; obtain ⟨C, hC⟩ : ∃ C, C = w.heap.size := ⟨_, rfl⟩; have HK : Hid (Below w.heap.size w wK ∧ wK.rangeAt C 0 cs ∧ wK.heap.size = C + 1) := Lib.hid (by rw [← hA, hC]; exact ⟨(Below.refl _ _).alloc (Nat.le_refl _) _, cbox _ _ _, by simp⟩); have HCl : Hid (w.heap.size ≤ C) := Lib.hid (by rw [hC]; exact Nat.le_refl _); rw [← hC]; clear hA hC; generalize hA : World.alloc wK _ = wX; obtain ⟨J, hJ⟩ : ∃ J, J = C + 1 := ⟨_, rfl⟩; have HX : Hid (Below w.heap.size w wX ∧ wX.rangeAt C 0 cs ∧ wX.rangeAt J 0 (rowL f) ∧ C < J ∧ wX.heap.size = J + 1) := Lib.hid (by rw [← hA, hJ, ← HK.out.2.2]; exact ⟨HK.out.1.alloc HK.out.1.size _, range_below HK.out.2.1 ((Below.refl _ _).alloc (Nat.le_refl _) _) (by have := HK.out.2.2; omega), (fun j v hv => by simp; simpa using hv), by have := HK.out.2.2; omega, by simp⟩); have HZ : Hid (∀ i, wX.frozen? ⟨J, i, none⟩ = false) := Lib.hid (by intro i; rw [← hA, hJ, ← HK.out.2.2]; simp); rw [show C + 1 = J from hJ.symm]; clear hA hJ; generalize hA : World.alloc wX _ = wA; have HFz : Hid (∀ i, wA.frozen? ⟨J, i, none⟩ = false) := Lib.hid (by intro i; rw [← hA]; exact (World.frozen?_of_block (a := ⟨J, i, none⟩) (((Below.refl _ _).alloc (Nat.le_refl _) _ : Below wX.heap.size wX _).block J (by have := HX.out.2.2.2; omega))).trans (HZ.out i)); obtain ⟨R, hR⟩ : ∃ R, R = J + 1 := ⟨_, rfl⟩; have HA : Hid (Below w.heap.size w wA ∧ wA.rangeAt C 0 cs ∧ wA.rangeAt J 0 (rowL f) ∧ World.there wA R 0 19 ∧ C < J ∧ J < R ∧ R < wA.heap.size) := Lib.hid (by rw [← hA, hR, ← HX.out.2.2.2.2]; exact ⟨HX.out.1.alloc HX.out.1.size _, range_below HX.out.2.1 ((Below.refl _ _).alloc (Nat.le_refl _) _) (by have := HX.out.2.2.2; omega), range_below HX.out.2.2.1 ((Below.refl _ _).alloc (Nat.le_refl _) _) (by have := HX.out.2.2.2; omega), nthere_new _ _ 19 (by rfl) _, HX.out.2.2.2.1, by have := HX.out.2.2.2; omega, by simp⟩); rw [← hR]; clear hA hR
  have q6 := CallC.cell HA.out.2.1 6 _ hc.out.c6
  go_wp2_with (first
    | (refine wpList_load_mid (by rfl) _ _ (by rfl) C 0 (by rfl) cs _ HA.out.2.1 Tryz.underlying84 rfl (by rw [hc.out.len]; exact infoCall) ?_)
    | (go_at_call 80; (with_reducible refine (oword_is hc _).mono ?_); rintro e w2 ⟨rfl, hb⟩; have H2 : Hid (Below w.heap.size w w2 ∧ w2.rangeAt C 0 cs ∧ w2.rangeAt J 0 (rowL f) ∧ World.there w2 R 0 19 ∧ R < w2.heap.size ∧ ∀ i, w2.frozen? ⟨J, i, none⟩ = false) := Lib.hid (by have hz := HA.out.2.2.2.2; exact ⟨HA.out.1.trans (hb.mono HA.out.1.size), range_below HA.out.2.1 hb (by omega), range_below HA.out.2.2.1 hb (by omega), nthere_below HA.out.2.2.2.1 hb (by omega), Nat.lt_of_lt_of_le hz.2.2 hb.size, fun i => (World.frozen?_of_block (a := ⟨J, i, none⟩) (hb.block J (by omega))).trans (HFz.out i)⟩); clear hb q6; have q6 := CallC.cell H2.out.2.1 6 _ hc.out.c6)
    | (go_at_call 64; (with_reducible refine (ofails_is 3 (by decide) (by decide) _).mono ?_); rintro e w1 ⟨rfl, hb⟩; have HB1 := Lib.hid (H2.out.1.trans (hb.mono H2.out.1.size)); have HT1 : Hid (World.there w1 R 0 19) := Lib.hid (nthere_below H2.out.2.2.2.1 hb H2.out.2.2.2.2.1); clear hb)
    | (refine wpList_store_mid (by rfl) _ _ _ (by rfl) R 0 ([.int .u32 3, .int .u32 0, .int .u32 0, .int .u32 0, .int .i64 0, .int .i64 0, .int .i64 0, .int .i64 0, .int .u32 0, .int .i64 0, .int .i64 0, .int .i64 0, .int .i64 0, .int .u32 0, .int .i64 0, .int .i64 0, .int .i64 0, .int .i64 0, .int .u32 0] : List Value).toArray (by rfl) (by rfl) HT1.out infoNote (note_one _ _ _ _ _ _ _ _ _ _ _ _ _ _ _ _ _ _ _) ?_))
  have hRn : w.heap.size ≤ R := (by have := HA.out.2.2.2.2; have := HCl.out; omega)
  generalize hS : World.setCells w1 _ _ _ = wS
  have HS : Hid (Below w.heap.size w wS ∧ wS.rangeAt R 0 [.int .u32 3, .int .u32 0, .int .u32 0, .int .u32 0, .int .i64 0, .int .i64 0, .int .i64 0, .int .i64 0, .int .u32 0, .int .i64 0, .int .i64 0, .int .i64 0, .int .i64 0, .int .u32 0, .int .i64 0, .int .i64 0, .int .i64 0, .int .i64 0, .int .u32 0]) := Lib.hid (by rw [← hS]; exact ⟨nbelow_cells HB1.out hRn _ _, World.rangeAt_setCells_same w1 R 0 [.int .u32 3, .int .u32 0, .int .u32 0, .int .u32 0, .int .i64 0, .int .i64 0, .int .i64 0, .int .i64 0, .int .u32 0, .int .i64 0, .int .i64 0, .int .i64 0, .int .i64 0, .int .u32 0, .int .i64 0, .int .i64 0, .int .i64 0, .int .i64 0, .int .u32 0] HT1.out⟩)
  have hld := nload rfl HS.out.2
  refine bodyPost_ret (v := (Value.agg #[.int .u32 3, .int .u32 0, .int .u32 0, .int .u32 0, .int .i64 0, .int .i64 0, .int .i64 0, .int .i64 0, .int .u32 0, .int .i64 0, .int .i64 0, .int .i64 0, .int .i64 0, .int .u32 0, .int .i64 0, .int .i64 0, .int .i64 0, .int .i64 0, .int .u32 0])) (by simp [results, Tryz.results85, Act.put, asAddr, hld]) rfl ⟨rfl, HS.out.1⟩
set_option maxRecDepth 100000 in
set_option maxHeartbeats 1000000 in
theorem creg_2 (hnl : nt.length = 19) (hn1 : ∀ v, v ∈ nt → v.oneCell' = true) (r : Nat) (hr : r < 16) (hx : Hid (x = (r : Int))) (hc : Hid (CallC cs s k0 k1 k2 k3 k4 2 x)) (f : Nat → Value) (hf : Hid (f (11 + r * 5) = .int .i64 m0 ∧ f (11 + r * 5 + 1) = .int .i64 m1 ∧ f (11 + r * 5 + 2) = .int .i64 m2 ∧ f (11 + r * 5 + 3) = .int .i64 m3 ∧ f (11 + r * 5 + 4) = .int .u32 m4)) (w : World)
    (hS : ∀ W, Below w.heap.size w W → Calls Tryz.prog 10 #[.pointer (some ⟨s, 0, none⟩), (Value.agg #[.int .i64 m0, .int .i64 m1, .int .i64 m2, .int .i64 m3, .int .u32 m4])] W fun e w' => e = .returned (Value.agg #[.int .i64 p0, .int .i64 p1, .int .i64 p2, .int .i64 p3, .int .u32 p4]) ∧ Below W.heap.size W w')
    (hK : ∀ W, Below w.heap.size w W → Calls Tryz.prog 77 #[(Value.agg #[.int .i64 p0, .int .i64 p1, .int .i64 p2, .int .i64 p3, .int .u32 p4])] W fun e w' => e = .returned (.agg nt.toArray) ∧ Below W.heap.size W w') :
    Calls Tryz.prog 85 #[(.agg cs.toArray), .agg (rowL f).toArray] w fun e w' => e = .returned (.agg nt.toArray) ∧ Below w.heap.size w w' := by
  rw [hx.out] at hc
  have HSe := Lib.hid hS
  have HKe := Lib.hid hK
  have hsz : nt.toArray.size = 19 := by simp [hnl]
  have r0 : (0 : Int) ≤ r := by omega
  have r1 : (r : Int) < 16 := by omega
  have hge : decide ((16 : Int) ≤ (r : Int)) = false := decide_eq_false (by omega)
  clear hS hK
  go_enter Tryz.func85, Tryz.ntmps85; go_upto_region 1 with fail; generalize hA : World.alloc w _ = wK; obtain ⟨C, hC⟩ : ∃ C, C = w.heap.size := ⟨_, rfl⟩; have HK : Hid (Below w.heap.size w wK ∧ wK.rangeAt C 0 cs ∧ wK.heap.size = C + 1) := Lib.hid (by rw [← hA, hC]; exact ⟨(Below.refl _ _).alloc (Nat.le_refl _) _, cbox _ _ _, by simp⟩); have HCl : Hid (w.heap.size ≤ C) := Lib.hid (by rw [hC]; exact Nat.le_refl _); rw [← hC]; clear hA hC; generalize hA : World.alloc wK _ = wX; obtain ⟨J, hJ⟩ : ∃ J, J = C + 1 := ⟨_, rfl⟩; have HX : Hid (Below w.heap.size w wX ∧ wX.rangeAt C 0 cs ∧ wX.rangeAt J 0 (rowL f) ∧ C < J ∧ wX.heap.size = J + 1) := Lib.hid (by rw [← hA, hJ, ← HK.out.2.2]; exact ⟨HK.out.1.alloc HK.out.1.size _, range_below HK.out.2.1 ((Below.refl _ _).alloc (Nat.le_refl _) _) (by have := HK.out.2.2; omega), (fun j v hv => by simp; simpa using hv), by have := HK.out.2.2; omega, by simp⟩); have HZ : Hid (∀ i, wX.frozen? ⟨J, i, none⟩ = false) := Lib.hid (by intro i; rw [← hA, hJ, ← HK.out.2.2]; simp); rw [show C + 1 = J from hJ.symm]; clear hA hJ; generalize hA : World.alloc wX _ = wA; have HFz : Hid (∀ i, wA.frozen? ⟨J, i, none⟩ = false) := Lib.hid (by intro i; rw [← hA]; exact (World.frozen?_of_block (a := ⟨J, i, none⟩) (((Below.refl _ _).alloc (Nat.le_refl _) _ : Below wX.heap.size wX _).block J (by have := HX.out.2.2.2; omega))).trans (HZ.out i)); obtain ⟨R, hR⟩ : ∃ R, R = J + 1 := ⟨_, rfl⟩; have HA : Hid (Below w.heap.size w wA ∧ wA.rangeAt C 0 cs ∧ wA.rangeAt J 0 (rowL f) ∧ World.there wA R 0 19 ∧ C < J ∧ J < R ∧ R < wA.heap.size) := Lib.hid (by rw [← hA, hR, ← HX.out.2.2.2.2]; exact ⟨HX.out.1.alloc HX.out.1.size _, range_below HX.out.2.1 ((Below.refl _ _).alloc (Nat.le_refl _) _) (by have := HX.out.2.2.2; omega), range_below HX.out.2.2.1 ((Below.refl _ _).alloc (Nat.le_refl _) _) (by have := HX.out.2.2.2; omega), nthere_new _ _ 19 (by rfl) _, HX.out.2.2.2.1, by have := HX.out.2.2.2; omega, by simp⟩); rw [← hR]; clear hA hR
  have q6 := CallC.cell HA.out.2.1 6 _ hc.out.c6
  go_upto_region 5 with (first
    | (refine wpList_load_mid (by rfl) _ _ (by rfl) C 0 (by rfl) cs _ HA.out.2.1 Tryz.underlying84 rfl (by rw [hc.out.len]; exact infoCall) ?_)
    | (go_at_call 80; (with_reducible refine (oword_is hc _).mono ?_); rintro e w2 ⟨rfl, hb⟩; have H2 : Hid (Below w.heap.size w w2 ∧ w2.rangeAt C 0 cs ∧ w2.rangeAt J 0 (rowL f) ∧ World.there w2 R 0 19 ∧ R < w2.heap.size ∧ ∀ i, w2.frozen? ⟨J, i, none⟩ = false) := Lib.hid (by have hz := HA.out.2.2.2.2; exact ⟨HA.out.1.trans (hb.mono HA.out.1.size), range_below HA.out.2.1 hb (by omega), range_below HA.out.2.2.1 hb (by omega), nthere_below HA.out.2.2.2.1 hb (by omega), Nat.lt_of_lt_of_le hz.2.2 hb.size, fun i => (World.frozen?_of_block (a := ⟨J, i, none⟩) (hb.block J (by omega))).trans (HFz.out i)⟩); clear hb q6; have q6 := CallC.cell H2.out.2.1 6 _ hc.out.c6))
  have HSC : Hid (∀ W, Below w2.heap.size w2 W → (World.cell? W ⟨C, 0, none⟩ = some (.pointer (some ⟨s, 0, none⟩)) ∧ (World.cell? W ⟨J, 11 + r * 5, none⟩ = some (.int .i64 m0) ∧ World.cell? W ⟨J, 11 + r * 5 + 1, none⟩ = some (.int .i64 m1) ∧ World.cell? W ⟨J, 11 + r * 5 + 2, none⟩ = some (.int .i64 m2) ∧ World.cell? W ⟨J, 11 + r * 5 + 3, none⟩ = some (.int .i64 m3) ∧ World.cell? W ⟨J, 11 + r * 5 + 4, none⟩ = some (.int .u32 m4)))) := Lib.hid (fun W hW => by
    have hz := HA.out.2.2.2.2
    have h2 := H2.out.2.2.2.2.1
    have hr1 := range_below H2.out.2.1 hW (by omega)
    have hr2 := range_below H2.out.2.2.1 hW (by omega)
    have hh := hf.out
    exact ⟨CallC.cell hr1 0 _ hc.out.c0, (rangeD hr2 _ (by omega)).trans (by rw [hh.1]), (rangeD hr2 _ (by omega)).trans (by rw [hh.2.1]), (rangeD hr2 _ (by omega)).trans (by rw [hh.2.2.1]), (rangeD hr2 _ (by omega)).trans (by rw [hh.2.2.2.1]), (rangeD hr2 _ (by omega)).trans (by rw [hh.2.2.2.2])⟩)
  obtain ⟨wD, hwD⟩ : ∃ wD, wD = w2.drew := ⟨_, rfl⟩
  have HBd : Hid (Below w2.heap.size w2 wD) := Lib.hid (by rw [hwD]; exact (Below.refl _ _).drew)
  refine wp_region_noPanic ?_
  refine wp_region_held_drew (S := fun W => (World.cell? W ⟨C, 0, none⟩ = some (.pointer (some ⟨s, 0, none⟩)) ∧ (World.cell? W ⟨J, 11 + r * 5, none⟩ = some (.int .i64 m0) ∧ World.cell? W ⟨J, 11 + r * 5 + 1, none⟩ = some (.int .i64 m1) ∧ World.cell? W ⟨J, 11 + r * 5 + 2, none⟩ = some (.int .i64 m2) ∧ World.cell? W ⟨J, 11 + r * 5 + 3, none⟩ = some (.int .i64 m3) ∧ World.cell? W ⟨J, 11 + r * 5 + 4, none⟩ = some (.int .u32 m4)))) (by kernel_rfl) (by rw [← hwD]; exact HSC.out _ HBd.out) (fun hHeld => ?_)
  rw [← hwD] at hHeld ⊢
  clear hwD q6
  refine wpAnyH_take (i := 0) (v := ?_) (by rfl) (by kernel_rfl) (by kernel_rfl) (by kernel_rfl) (fun _ _ _ h => h) (Or.inl ⟨by kernel_rfl, ?_⟩) (by assumption) ?_; rotate_left 1; (focus (intro w hSw; (try dsimp only at hSw); simp only [List.getElem_toArray, List.getElem_cons_succ, List.getElem_cons_zero]; all_goals go_simp; all_goals (try with_reducible rfl))); (try simp only [Act.put, List.getElem_toArray, List.getElem_cons_succ, List.getElem_cons_zero, List.setIfInBounds_toArray, List.set_cons_zero, List.set_cons_succ])
  refine wpAnyH_take (i := 1) (v := ?_) (by rfl) (by kernel_rfl) (by kernel_rfl) (by kernel_rfl) (fun _ _ _ h => h) (Or.inl ⟨by kernel_rfl, ?_⟩) (by assumption) ?_; rotate_left 1; (focus (intro w hSw; (try dsimp only at hSw); simp only [List.getElem_toArray, List.getElem_cons_succ, List.getElem_cons_zero]; all_goals go_simp; all_goals (try with_reducible rfl))); (try simp only [Act.put, List.getElem_toArray, List.getElem_cons_succ, List.getElem_cons_zero, List.setIfInBounds_toArray, List.set_cons_zero, List.set_cons_succ])
  refine wpAnyH_take (i := 2) (v := ?_) (by rfl) (by kernel_rfl) (by kernel_rfl) (by kernel_rfl) (fun _ _ _ h => h) (Or.inl ⟨by kernel_rfl, ?_⟩) (by assumption) ?_; rotate_left 1; (focus (intro w hSw; (try dsimp only at hSw); simp only [List.getElem_toArray, List.getElem_cons_succ, List.getElem_cons_zero]; all_goals go_simp; all_goals (try with_reducible rfl))); (try simp only [Act.put, List.getElem_toArray, List.getElem_cons_succ, List.getElem_cons_zero, List.setIfInBounds_toArray, List.set_cons_zero, List.set_cons_succ])
  refine wpAnyH_take (i := 3) (v := ?_) (by rfl) (by kernel_rfl) (by kernel_rfl) (by kernel_rfl) (fun _ _ _ h => h) (Or.inl ⟨by kernel_rfl, ?_⟩) (by assumption) ?_; rotate_left 1; (focus (intro w hSw; (try dsimp only at hSw); simp only [List.getElem_toArray, List.getElem_cons_succ, List.getElem_cons_zero]; all_goals go_simp; all_goals (try with_reducible rfl))); (try simp only [Act.put, List.getElem_toArray, List.getElem_cons_succ, List.getElem_cons_zero, List.setIfInBounds_toArray, List.set_cons_zero, List.set_cons_succ])
  refine wpAnyH_take (i := 4) (v := ?_) (by rfl) (by kernel_rfl) (by kernel_rfl) (by kernel_rfl) (fun _ _ _ h => h) (Or.inl ⟨by kernel_rfl, ?_⟩) (by assumption) ?_; rotate_left 1; (focus (intro w hSw; (try dsimp only at hSw); simp only [List.getElem_toArray, List.getElem_cons_succ, List.getElem_cons_zero]; all_goals go_simp; all_goals (try with_reducible rfl))); (try simp only [Act.put, List.getElem_toArray, List.getElem_cons_succ, List.getElem_cons_zero, List.setIfInBounds_toArray, List.set_cons_zero, List.set_cons_succ])
  refine wpAnyH_take (i := 5) (v := ?_) (by rfl) (by kernel_rfl) (by kernel_rfl) (by kernel_rfl) (fun _ _ _ h => h) (Or.inl ⟨by kernel_rfl, ?_⟩) (by assumption) ?_; rotate_left 1; (focus (intro w hSw; (try dsimp only at hSw); simp only [List.getElem_toArray, List.getElem_cons_succ, List.getElem_cons_zero]; all_goals go_simp; all_goals (try with_reducible rfl))); (try simp only [Act.put, List.getElem_toArray, List.getElem_cons_succ, List.getElem_cons_zero, List.setIfInBounds_toArray, List.set_cons_zero, List.set_cons_succ])
  refine wpAnyH_ready (rs := [6]) (by kernel_rfl) (by simp) ?_; refine AllReadyH.cons (by rfl) (fun K hK => ?_) AllReadyH.nil; rw [if_pos (by kernel_rfl)]; simp only [List.getElem_toArray, List.getElem_cons_succ, List.getElem_cons_zero]
  go_wp2_with (first | (go_at_call 10; (with_reducible refine (HSe.out _ (H2.out.1.trans (HBd.out.mono H2.out.1.size))).mono ?_); rintro e w3 ⟨rfl, hb⟩; have HB3 : Hid (Below w2.heap.size w2 w3) := Lib.hid (HBd.out.trans (hb.mono HBd.out.size)); clear hb))
  refine hK.out _ _ (HSC.out _ HB3.out) (fun hHeld => ?_)
  clear hK K
  (try simp only [Act.put, List.getElem_toArray, List.getElem_cons_succ, List.getElem_cons_zero, List.setIfInBounds_toArray, List.set_cons_zero, List.set_cons_succ])
  refine wpAnyH_ready (rs := [7]) (by kernel_rfl) (by simp) ?_; refine AllReadyH.cons (by rfl) (fun K hK => ?_) AllReadyH.nil; rw [if_pos (by kernel_rfl)]; simp only [List.getElem_toArray, List.getElem_cons_succ, List.getElem_cons_zero]
  go_wp2_with (first | (go_at_call 77; (with_reducible refine (HKe.out _ (H2.out.1.trans (HB3.out.mono H2.out.1.size))).mono ?_); rintro e w5 ⟨rfl, hb⟩; have HB5 : Hid (Below w2.heap.size w2 w5) := Lib.hid (HB3.out.trans (hb.mono HB3.out.size)); clear hb))
  refine hK.out _ _ (HSC.out _ HB5.out) (fun hHeld => ?_)
  clear hK K
  (try simp only [Act.put, List.getElem_toArray, List.getElem_cons_succ, List.getElem_cons_zero, List.setIfInBounds_toArray, List.set_cons_zero, List.set_cons_succ])
  have HT5 : Hid (World.there w5 R 0 19) := Lib.hid (nthere_below H2.out.2.2.2.1 HB5.out H2.out.2.2.2.2.1)
  refine wpAnyH_ready (rs := [8]) (by kernel_rfl) (by simp) ?_; refine AllReadyH.cons (by rfl) (fun K hK => ?_) AllReadyH.nil; rw [if_pos (by kernel_rfl)]; simp only [List.getElem_toArray, List.getElem_cons_succ, List.getElem_cons_zero]
  refine wp_store_mid 49 (Operand.tmp 4) (Operand.tmp 22) (by rfl) R 0 nt.toArray (by rfl) (by rfl) (by rw [hsz]; exact HT5.out) (by rw [hsz]; exact infoNote) (all_one hn1) ?_
  have hRn : w.heap.size ≤ R := by have := HA.out.2.2.2.2; have := HCl.out; omega
  generalize hS : World.setCells w5 _ _ _ = wS
  have HS : Hid (Below w.heap.size w wS ∧ wS.rangeAt R 0 nt ∧ (World.cell? wS ⟨C, 0, none⟩ = some (.pointer (some ⟨s, 0, none⟩)) ∧ (World.cell? wS ⟨J, 11 + r * 5, none⟩ = some (.int .i64 m0) ∧ World.cell? wS ⟨J, 11 + r * 5 + 1, none⟩ = some (.int .i64 m1) ∧ World.cell? wS ⟨J, 11 + r * 5 + 2, none⟩ = some (.int .i64 m2) ∧ World.cell? wS ⟨J, 11 + r * 5 + 3, none⟩ = some (.int .i64 m3) ∧ World.cell? wS ⟨J, 11 + r * 5 + 4, none⟩ = some (.int .u32 m4)))) := Lib.hid (by
    have hz := HA.out.2.2.2.2
    have h5 := HSC.out _ HB5.out
    have hcl : ∀ b o (v : Value), b ≠ R → w5.cell? ⟨b, o, none⟩ = some v → wS.cell? ⟨b, o, none⟩ = some v := fun b o v hb hv => by
      rw [← hS, World.cell?_setCells_out _ _ _ _ _ (fun h => absurd h hb)]; exact hv
    refine ⟨?_, ?_, hcl _ _ _ (by omega) h5.1, hcl _ _ _ (by omega) h5.2.1, hcl _ _ _ (by omega) h5.2.2.1, hcl _ _ _ (by omega) h5.2.2.2.1, hcl _ _ _ (by omega) h5.2.2.2.2.1, hcl _ _ _ (by omega) h5.2.2.2.2.2⟩
    · rw [← hS]; exact nbelow_cells (H2.out.1.trans (HB5.out.mono H2.out.1.size)) hRn _ _
    · rw [← hS]; exact World.rangeAt_setCells_same w5 R 0 nt (by rw [hnl]; exact HT5.out))
  clear hS
  refine hK.out _ _ HS.out.2.2 (fun hHeld => ?_)
  clear hK K
  (try simp only [Act.put, List.getElem_toArray, List.getElem_cons_succ, List.getElem_cons_zero, List.setIfInBounds_toArray, List.set_cons_zero, List.set_cons_succ])
  refine wpAnyH_done (by kernel_rfl) ?_ _
  refine NoPanic.normal ?_
  go_wp2_with fail
  have hld := nload hnl HS.out.2.1
  refine bodyPost_ret (v := (.agg nt.toArray)) (by simp [results, Tryz.results85, Act.put, asAddr, hld]) rfl ⟨rfl, HS.out.1⟩
end
end Go.Proofs.YthgjejclhdolmaaGreatDoor
