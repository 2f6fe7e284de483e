import Derived.Test.YtahhnfhnlffmpaaValidA
namespace Go.Proofs.Ytahhnfhnlffmpaa
open Go.ChangeShapes Go.WideShapes Go.ChangeAt Go.RowKit
set_option linter.unusedVariables false
set_option maxHeartbeats 1000000 in
theorem valid_6_ok (k1 k2 k3 k4 : Int) (hm : Hid (manyOf 6 = 32)) (g1 : 0 ≤ k1) (g2 : k1 < 32) (g3 : 0 ≤ k2) (g4 : k2 ≤ 1048575) (g5 : 0 ≤ k3) (g6 : k3 ≤ 0) (g7 : k4 ≤ 536870911) (w : World) :
    Calls Try.prog 8 #[Value.agg #[.int .i64 6, .int .i64 k1, .int .i64 k2, .int .i64 k3, .int .u32 k4]] w fun e w' => e = .returned (.int .i64 0) ∧ Below w.heap.size w w' := by
  have d0 : decide (k1 < 0) = false := by rw [decide_eq_false_iff_not]; omega
  have d1 : decide (32 ≤ k1) = false := by rw [decide_eq_false_iff_not]; omega
  have d2 : decide (k2 < 0) = false := by rw [decide_eq_false_iff_not]; omega
  have d3 : decide (1048575 < k2) = false := by rw [decide_eq_false_iff_not]; omega
  have d4 : decide (k3 < 0) = false := by rw [decide_eq_false_iff_not]; omega
  have d5 : decide (0 < k3) = false := by rw [decide_eq_false_iff_not]; omega
  have d6 : decide (536870911 < k4) = false := by rw [decide_eq_false_iff_not]; omega
  go_enter Try.func8, Try.ntmps8
  go_wp2_with (first | (go_at_call 18; refine (many_is _ _ hm _).mono ?_; rintro e w' ⟨rfl, rfl⟩))
  go_quiet ((go_at_call 18; exact quiet_left (many_is _ _ hm _)))
  go_wp2
  go_ret
  exact ⟨rfl, below_drewN ((Below.refl _ _).alloc (Nat.le_refl _) _) _⟩
set_option maxHeartbeats 1000000 in
theorem valid_6_b0 (k1 k2 k3 k4 : Int) (hm : Hid (manyOf 6 = 32))  (g : ¬ 0 ≤ k1) (w : World) :
    Calls Try.prog 8 #[Value.agg #[.int .i64 6, .int .i64 k1, .int .i64 k2, .int .i64 k3, .int .u32 k4]] w fun e w' => e = .returned (.int .i64 103) ∧ Below w.heap.size w w' := by
  have d0 : decide (k1 < 0) = true := by rw [decide_eq_true_iff]; omega
  go_enter Try.func8, Try.ntmps8
  go_wp2_with (first | (go_at_call 18; refine (many_is _ _ hm _).mono ?_; rintro e w' ⟨rfl, rfl⟩))
  go_quiet ((go_at_call 18; exact quiet_left (many_is _ _ hm _)))
  go_wp2
  go_ret
  exact ⟨rfl, below_drewN ((Below.refl _ _).alloc (Nat.le_refl _) _) _⟩
set_option maxHeartbeats 1000000 in
theorem valid_6_b1 (k1 k2 k3 k4 : Int) (hm : Hid (manyOf 6 = 32)) (g0 : 0 ≤ k1) (g : ¬ k1 < 32) (w : World) :
    Calls Try.prog 8 #[Value.agg #[.int .i64 6, .int .i64 k1, .int .i64 k2, .int .i64 k3, .int .u32 k4]] w fun e w' => e = .returned (.int .i64 103) ∧ Below w.heap.size w w' := by
  have d0 : decide (k1 < 0) = false := by rw [decide_eq_false_iff_not]; omega
  have d1 : decide (32 ≤ k1) = true := by rw [decide_eq_true_iff]; omega
  go_enter Try.func8, Try.ntmps8
  go_wp2_with (first | (go_at_call 18; refine (many_is _ _ hm _).mono ?_; rintro e w' ⟨rfl, rfl⟩))
  go_quiet ((go_at_call 18; exact quiet_left (many_is _ _ hm _)))
  go_wp2
  go_ret
  exact ⟨rfl, below_drewN ((Below.refl _ _).alloc (Nat.le_refl _) _) _⟩
set_option maxHeartbeats 1000000 in
theorem valid_6_b2 (k1 k2 k3 k4 : Int) (hm : Hid (manyOf 6 = 32)) (g0 : 0 ≤ k1) (g1 : k1 < 32) (g : ¬ 0 ≤ k2) (w : World) :
    Calls Try.prog 8 #[Value.agg #[.int .i64 6, .int .i64 k1, .int .i64 k2, .int .i64 k3, .int .u32 k4]] w fun e w' => e = .returned (.int .i64 103) ∧ Below w.heap.size w w' := by
  have d0 : decide (k1 < 0) = false := by rw [decide_eq_false_iff_not]; omega
  have d1 : decide (32 ≤ k1) = false := by rw [decide_eq_false_iff_not]; omega
  have d2 : decide (k2 < 0) = true := by rw [decide_eq_true_iff]; omega
  go_enter Try.func8, Try.ntmps8
  go_wp2_with (first | (go_at_call 18; refine (many_is _ _ hm _).mono ?_; rintro e w' ⟨rfl, rfl⟩))
  go_quiet ((go_at_call 18; exact quiet_left (many_is _ _ hm _)))
  go_wp2
  go_ret
  exact ⟨rfl, below_drewN ((Below.refl _ _).alloc (Nat.le_refl _) _) _⟩
set_option maxHeartbeats 1000000 in
theorem valid_6_b3 (k1 k2 k3 k4 : Int) (hm : Hid (manyOf 6 = 32)) (g0 : 0 ≤ k1) (g1 : k1 < 32) (g2 : 0 ≤ k2) (g : ¬ k2 ≤ 1048575) (w : World) :
    Calls Try.prog 8 #[Value.agg #[.int .i64 6, .int .i64 k1, .int .i64 k2, .int .i64 k3, .int .u32 k4]] w fun e w' => e = .returned (.int .i64 103) ∧ Below w.heap.size w w' := by
  have d0 : decide (k1 < 0) = false := by rw [decide_eq_false_iff_not]; omega
  have d1 : decide (32 ≤ k1) = false := by rw [decide_eq_false_iff_not]; omega
  have d2 : decide (k2 < 0) = false := by rw [decide_eq_false_iff_not]; omega
  have d3 : decide (1048575 < k2) = true := by rw [decide_eq_true_iff]; omega
  go_enter Try.func8, Try.ntmps8
  go_wp2_with (first | (go_at_call 18; refine (many_is _ _ hm _).mono ?_; rintro e w' ⟨rfl, rfl⟩))
  go_quiet ((go_at_call 18; exact quiet_left (many_is _ _ hm _)))
  go_wp2
  go_ret
  exact ⟨rfl, below_drewN ((Below.refl _ _).alloc (Nat.le_refl _) _) _⟩
set_option maxHeartbeats 1000000 in
theorem valid_6_b4 (k1 k2 k3 k4 : Int) (hm : Hid (manyOf 6 = 32)) (g0 : 0 ≤ k1) (g1 : k1 < 32) (g2 : 0 ≤ k2) (g3 : k2 ≤ 1048575) (g : ¬ 0 ≤ k3) (w : World) :
    Calls Try.prog 8 #[Value.agg #[.int .i64 6, .int .i64 k1, .int .i64 k2, .int .i64 k3, .int .u32 k4]] w fun e w' => e = .returned (.int .i64 103) ∧ Below w.heap.size w w' := by
  have d0 : decide (k1 < 0) = false := by rw [decide_eq_false_iff_not]; omega
  have d1 : decide (32 ≤ k1) = false := by rw [decide_eq_false_iff_not]; omega
  have d2 : decide (k2 < 0) = false := by rw [decide_eq_false_iff_not]; omega
  have d3 : decide (1048575 < k2) = false := by rw [decide_eq_false_iff_not]; omega
  have d4 : decide (k3 < 0) = true := by rw [decide_eq_true_iff]; omega
  go_enter Try.func8, Try.ntmps8
  go_wp2_with (first | (go_at_call 18; refine (many_is _ _ hm _).mono ?_; rintro e w' ⟨rfl, rfl⟩))
  go_quiet ((go_at_call 18; exact quiet_left (many_is _ _ hm _)))
  go_wp2
  go_ret
  exact ⟨rfl, below_drewN ((Below.refl _ _).alloc (Nat.le_refl _) _) _⟩
set_option maxHeartbeats 1000000 in
theorem valid_6_b5 (k1 k2 k3 k4 : Int) (hm : Hid (manyOf 6 = 32)) (g0 : 0 ≤ k1) (g1 : k1 < 32) (g2 : 0 ≤ k2) (g3 : k2 ≤ 1048575) (g4 : 0 ≤ k3) (g : ¬ k3 ≤ 0) (w : World) :
    Calls Try.prog 8 #[Value.agg #[.int .i64 6, .int .i64 k1, .int .i64 k2, .int .i64 k3, .int .u32 k4]] w fun e w' => e = .returned (.int .i64 103) ∧ Below w.heap.size w w' := by
  have d0 : decide (k1 < 0) = false := by rw [decide_eq_false_iff_not]; omega
  have d1 : decide (32 ≤ k1) = false := by rw [decide_eq_false_iff_not]; omega
  have d2 : decide (k2 < 0) = false := by rw [decide_eq_false_iff_not]; omega
  have d3 : decide (1048575 < k2) = false := by rw [decide_eq_false_iff_not]; omega
  have d4 : decide (k3 < 0) = false := by rw [decide_eq_false_iff_not]; omega
  have d5 : decide (0 < k3) = true := by rw [decide_eq_true_iff]; omega
  go_enter Try.func8, Try.ntmps8
  go_wp2_with (first | (go_at_call 18; refine (many_is _ _ hm _).mono ?_; rintro e w' ⟨rfl, rfl⟩))
  go_quiet ((go_at_call 18; exact quiet_left (many_is _ _ hm _)))
  go_wp2
  go_ret
  exact ⟨rfl, below_drewN ((Below.refl _ _).alloc (Nat.le_refl _) _) _⟩
set_option maxHeartbeats 1000000 in
theorem valid_6_b6 (k1 k2 k3 k4 : Int) (hm : Hid (manyOf 6 = 32)) (g0 : 0 ≤ k1) (g1 : k1 < 32) (g2 : 0 ≤ k2) (g3 : k2 ≤ 1048575) (g4 : 0 ≤ k3) (g5 : k3 ≤ 0) (g : ¬ k4 ≤ 536870911) (w : World) :
    Calls Try.prog 8 #[Value.agg #[.int .i64 6, .int .i64 k1, .int .i64 k2, .int .i64 k3, .int .u32 k4]] w fun e w' => e = .returned (.int .i64 103) ∧ Below w.heap.size w w' := by
  have d0 : decide (k1 < 0) = false := by rw [decide_eq_false_iff_not]; omega
  have d1 : decide (32 ≤ k1) = false := by rw [decide_eq_false_iff_not]; omega
  have d2 : decide (k2 < 0) = false := by rw [decide_eq_false_iff_not]; omega
  have d3 : decide (1048575 < k2) = false := by rw [decide_eq_false_iff_not]; omega
  have d4 : decide (k3 < 0) = false := by rw [decide_eq_false_iff_not]; omega
  have d5 : decide (0 < k3) = false := by rw [decide_eq_false_iff_not]; omega
  have d6 : decide (536870911 < k4) = true := by rw [decide_eq_true_iff]; omega
  go_enter Try.func8, Try.ntmps8
  go_wp2_with (first | (go_at_call 18; refine (many_is _ _ hm _).mono ?_; rintro e w' ⟨rfl, rfl⟩))
  go_quiet ((go_at_call 18; exact quiet_left (many_is _ _ hm _)))
  go_wp2
  go_ret
  exact ⟨rfl, below_drewN ((Below.refl _ _).alloc (Nat.le_refl _) _) _⟩
set_option maxHeartbeats 1000000 in
theorem valid_D_ok (k0 k1 k2 k3 k4 m : Int) (h0 : 0 ≤ k0) (h14 : k0 ≤ 14) (h1 : ¬ k0 = 1) (h2 : ¬ k0 = 2) (h3 : ¬ k0 = 3) (h5 : ¬ k0 = 5) (h6 : ¬ k0 = 6) (hm : Hid (manyOf k0 = m)) (hm1 : 1 < m) (g1 : 0 ≤ k1) (g2 : k1 < m) (g3 : 0 ≤ k2) (g4 : k2 ≤ 1048575) (g5 : 0 ≤ k3) (g6 : k3 ≤ 0) (g7 : k4 ≤ 0) (w : World) :
    Calls Try.prog 8 #[Value.agg #[.int .i64 k0, .int .i64 k1, .int .i64 k2, .int .i64 k3, .int .u32 k4]] w fun e w' => e = .returned (.int .i64 0) ∧ Below w.heap.size w w' := by
  have e1 : (k0 == 1) = false := by simpa using h1
  have e2 : (k0 == 2) = false := by simpa using h2
  have e3 : (k0 == 3) = false := by simpa using h3
  have e5 : (k0 == 5) = false := by simpa using h5
  have e6 : (k0 == 6) = false := by simpa using h6
  have e0 : decide (k0 < 0) = false := by rw [decide_eq_false_iff_not]; omega
  have e14 : decide (14 < k0) = false := by rw [decide_eq_false_iff_not]; omega
  have d0 : decide (k1 < 0) = false := by rw [decide_eq_false_iff_not]; omega
  have d1 : decide (m ≤ k1) = false := by rw [decide_eq_false_iff_not]; omega
  have d2 : decide (k2 < 0) = false := by rw [decide_eq_false_iff_not]; omega
  have d3 : decide (1048575 < k2) = false := by rw [decide_eq_false_iff_not]; omega
  have d4 : decide (k3 < 0) = false := by rw [decide_eq_false_iff_not]; omega
  have d5 : decide (0 < k3) = false := by rw [decide_eq_false_iff_not]; omega
  have d6 : decide (0 < k4) = false := by rw [decide_eq_false_iff_not]; omega
  go_enter Try.func8, Try.ntmps8
  go_wp2_with (first | (go_at_call 18; refine (many_is _ _ hm _).mono ?_; rintro e w' ⟨rfl, rfl⟩))
  go_quiet ((go_at_call 18; exact quiet_left (many_is _ _ hm _)))
  go_wp2
  go_ret
  exact ⟨rfl, below_drewN ((Below.refl _ _).alloc (Nat.le_refl _) _) _⟩
set_option maxHeartbeats 1000000 in
theorem valid_D_b0 (k0 k1 k2 k3 k4 m : Int) (h0 : 0 ≤ k0) (h14 : k0 ≤ 14) (h1 : ¬ k0 = 1) (h2 : ¬ k0 = 2) (h3 : ¬ k0 = 3) (h5 : ¬ k0 = 5) (h6 : ¬ k0 = 6) (hm : Hid (manyOf k0 = m)) (hm1 : 1 < m)  (g : ¬ 0 ≤ k1) (w : World) :
    Calls Try.prog 8 #[Value.agg #[.int .i64 k0, .int .i64 k1, .int .i64 k2, .int .i64 k3, .int .u32 k4]] w fun e w' => e = .returned (.int .i64 103) ∧ Below w.heap.size w w' := by
  have e1 : (k0 == 1) = false := by simpa using h1
  have e2 : (k0 == 2) = false := by simpa using h2
  have e3 : (k0 == 3) = false := by simpa using h3
  have e5 : (k0 == 5) = false := by simpa using h5
  have e6 : (k0 == 6) = false := by simpa using h6
  have e0 : decide (k0 < 0) = false := by rw [decide_eq_false_iff_not]; omega
  have e14 : decide (14 < k0) = false := by rw [decide_eq_false_iff_not]; omega
  have d0 : decide (k1 < 0) = true := by rw [decide_eq_true_iff]; omega
  go_enter Try.func8, Try.ntmps8
  go_wp2_with (first | (go_at_call 18; refine (many_is _ _ hm _).mono ?_; rintro e w' ⟨rfl, rfl⟩))
  go_quiet ((go_at_call 18; exact quiet_left (many_is _ _ hm _)))
  go_wp2
  go_ret
  exact ⟨rfl, below_drewN ((Below.refl _ _).alloc (Nat.le_refl _) _) _⟩
set_option maxHeartbeats 1000000 in
theorem valid_D_b1 (k0 k1 k2 k3 k4 m : Int) (h0 : 0 ≤ k0) (h14 : k0 ≤ 14) (h1 : ¬ k0 = 1) (h2 : ¬ k0 = 2) (h3 : ¬ k0 = 3) (h5 : ¬ k0 = 5) (h6 : ¬ k0 = 6) (hm : Hid (manyOf k0 = m)) (hm1 : 1 < m) (g0 : 0 ≤ k1) (g : ¬ k1 < m) (w : World) :
    Calls Try.prog 8 #[Value.agg #[.int .i64 k0, .int .i64 k1, .int .i64 k2, .int .i64 k3, .int .u32 k4]] w fun e w' => e = .returned (.int .i64 103) ∧ Below w.heap.size w w' := by
  have e1 : (k0 == 1) = false := by simpa using h1
  have e2 : (k0 == 2) = false := by simpa using h2
  have e3 : (k0 == 3) = false := by simpa using h3
  have e5 : (k0 == 5) = false := by simpa using h5
  have e6 : (k0 == 6) = false := by simpa using h6
  have e0 : decide (k0 < 0) = false := by rw [decide_eq_false_iff_not]; omega
  have e14 : decide (14 < k0) = false := by rw [decide_eq_false_iff_not]; omega
  have d0 : decide (k1 < 0) = false := by rw [decide_eq_false_iff_not]; omega
  have d1 : decide (m ≤ k1) = true := by rw [decide_eq_true_iff]; omega
  go_enter Try.func8, Try.ntmps8
  go_wp2_with (first | (go_at_call 18; refine (many_is _ _ hm _).mono ?_; rintro e w' ⟨rfl, rfl⟩))
  go_quiet ((go_at_call 18; exact quiet_left (many_is _ _ hm _)))
  go_wp2
  go_ret
  exact ⟨rfl, below_drewN ((Below.refl _ _).alloc (Nat.le_refl _) _) _⟩
set_option maxHeartbeats 1000000 in
theorem valid_D_b2 (k0 k1 k2 k3 k4 m : Int) (h0 : 0 ≤ k0) (h14 : k0 ≤ 14) (h1 : ¬ k0 = 1) (h2 : ¬ k0 = 2) (h3 : ¬ k0 = 3) (h5 : ¬ k0 = 5) (h6 : ¬ k0 = 6) (hm : Hid (manyOf k0 = m)) (hm1 : 1 < m) (g0 : 0 ≤ k1) (g1 : k1 < m) (g : ¬ 0 ≤ k2) (w : World) :
    Calls Try.prog 8 #[Value.agg #[.int .i64 k0, .int .i64 k1, .int .i64 k2, .int .i64 k3, .int .u32 k4]] w fun e w' => e = .returned (.int .i64 103) ∧ Below w.heap.size w w' := by
  have e1 : (k0 == 1) = false := by simpa using h1
  have e2 : (k0 == 2) = false := by simpa using h2
  have e3 : (k0 == 3) = false := by simpa using h3
  have e5 : (k0 == 5) = false := by simpa using h5
  have e6 : (k0 == 6) = false := by simpa using h6
  have e0 : decide (k0 < 0) = false := by rw [decide_eq_false_iff_not]; omega
  have e14 : decide (14 < k0) = false := by rw [decide_eq_false_iff_not]; omega
  have d0 : decide (k1 < 0) = false := by rw [decide_eq_false_iff_not]; omega
  have d1 : decide (m ≤ k1) = false := by rw [decide_eq_false_iff_not]; omega
  have d2 : decide (k2 < 0) = true := by rw [decide_eq_true_iff]; omega
  go_enter Try.func8, Try.ntmps8
  go_wp2_with (first | (go_at_call 18; refine (many_is _ _ hm _).mono ?_; rintro e w' ⟨rfl, rfl⟩))
  go_quiet ((go_at_call 18; exact quiet_left (many_is _ _ hm _)))
  go_wp2
  go_ret
  exact ⟨rfl, below_drewN ((Below.refl _ _).alloc (Nat.le_refl _) _) _⟩
set_option maxHeartbeats 1000000 in
theorem valid_D_b3 (k0 k1 k2 k3 k4 m : Int) (h0 : 0 ≤ k0) (h14 : k0 ≤ 14) (h1 : ¬ k0 = 1) (h2 : ¬ k0 = 2) (h3 : ¬ k0 = 3) (h5 : ¬ k0 = 5) (h6 : ¬ k0 = 6) (hm : Hid (manyOf k0 = m)) (hm1 : 1 < m) (g0 : 0 ≤ k1) (g1 : k1 < m) (g2 : 0 ≤ k2) (g : ¬ k2 ≤ 1048575) (w : World) :
    Calls Try.prog 8 #[Value.agg #[.int .i64 k0, .int .i64 k1, .int .i64 k2, .int .i64 k3, .int .u32 k4]] w fun e w' => e = .returned (.int .i64 103) ∧ Below w.heap.size w w' := by
  have e1 : (k0 == 1) = false := by simpa using h1
  have e2 : (k0 == 2) = false := by simpa using h2
  have e3 : (k0 == 3) = false := by simpa using h3
  have e5 : (k0 == 5) = false := by simpa using h5
  have e6 : (k0 == 6) = false := by simpa using h6
  have e0 : decide (k0 < 0) = false := by rw [decide_eq_false_iff_not]; omega
  have e14 : decide (14 < k0) = false := by rw [decide_eq_false_iff_not]; omega
  have d0 : decide (k1 < 0) = false := by rw [decide_eq_false_iff_not]; omega
  have d1 : decide (m ≤ k1) = false := by rw [decide_eq_false_iff_not]; omega
  have d2 : decide (k2 < 0) = false := by rw [decide_eq_false_iff_not]; omega
  have d3 : decide (1048575 < k2) = true := by rw [decide_eq_true_iff]; omega
  go_enter Try.func8, Try.ntmps8
  go_wp2_with (first | (go_at_call 18; refine (many_is _ _ hm _).mono ?_; rintro e w' ⟨rfl, rfl⟩))
  go_quiet ((go_at_call 18; exact quiet_left (many_is _ _ hm _)))
  go_wp2
  go_ret
  exact ⟨rfl, below_drewN ((Below.refl _ _).alloc (Nat.le_refl _) _) _⟩
set_option maxHeartbeats 1000000 in
theorem valid_D_b4 (k0 k1 k2 k3 k4 m : Int) (h0 : 0 ≤ k0) (h14 : k0 ≤ 14) (h1 : ¬ k0 = 1) (h2 : ¬ k0 = 2) (h3 : ¬ k0 = 3) (h5 : ¬ k0 = 5) (h6 : ¬ k0 = 6) (hm : Hid (manyOf k0 = m)) (hm1 : 1 < m) (g0 : 0 ≤ k1) (g1 : k1 < m) (g2 : 0 ≤ k2) (g3 : k2 ≤ 1048575) (g : ¬ 0 ≤ k3) (w : World) :
    Calls Try.prog 8 #[Value.agg #[.int .i64 k0, .int .i64 k1, .int .i64 k2, .int .i64 k3, .int .u32 k4]] w fun e w' => e = .returned (.int .i64 103) ∧ Below w.heap.size w w' := by
  have e1 : (k0 == 1) = false := by simpa using h1
  have e2 : (k0 == 2) = false := by simpa using h2
  have e3 : (k0 == 3) = false := by simpa using h3
  have e5 : (k0 == 5) = false := by simpa using h5
  have e6 : (k0 == 6) = false := by simpa using h6
  have e0 : decide (k0 < 0) = false := by rw [decide_eq_false_iff_not]; omega
  have e14 : decide (14 < k0) = false := by rw [decide_eq_false_iff_not]; omega
  have d0 : decide (k1 < 0) = false := by rw [decide_eq_false_iff_not]; omega
  have d1 : decide (m ≤ k1) = false := by rw [decide_eq_false_iff_not]; omega
  have d2 : decide (k2 < 0) = false := by rw [decide_eq_false_iff_not]; omega
  have d3 : decide (1048575 < k2) = false := by rw [decide_eq_false_iff_not]; omega
  have d4 : decide (k3 < 0) = true := by rw [decide_eq_true_iff]; omega
  go_enter Try.func8, Try.ntmps8
  go_wp2_with (first | (go_at_call 18; refine (many_is _ _ hm _).mono ?_; rintro e w' ⟨rfl, rfl⟩))
  go_quiet ((go_at_call 18; exact quiet_left (many_is _ _ hm _)))
  go_wp2
  go_ret
  exact ⟨rfl, below_drewN ((Below.refl _ _).alloc (Nat.le_refl _) _) _⟩
set_option maxHeartbeats 1000000 in
theorem valid_D_b5 (k0 k1 k2 k3 k4 m : Int) (h0 : 0 ≤ k0) (h14 : k0 ≤ 14) (h1 : ¬ k0 = 1) (h2 : ¬ k0 = 2) (h3 : ¬ k0 = 3) (h5 : ¬ k0 = 5) (h6 : ¬ k0 = 6) (hm : Hid (manyOf k0 = m)) (hm1 : 1 < m) (g0 : 0 ≤ k1) (g1 : k1 < m) (g2 : 0 ≤ k2) (g3 : k2 ≤ 1048575) (g4 : 0 ≤ k3) (g : ¬ k3 ≤ 0) (w : World) :
    Calls Try.prog 8 #[Value.agg #[.int .i64 k0, .int .i64 k1, .int .i64 k2, .int .i64 k3, .int .u32 k4]] w fun e w' => e = .returned (.int .i64 103) ∧ Below w.heap.size w w' := by
  have e1 : (k0 == 1) = false := by simpa using h1
  have e2 : (k0 == 2) = false := by simpa using h2
  have e3 : (k0 == 3) = false := by simpa using h3
  have e5 : (k0 == 5) = false := by simpa using h5
  have e6 : (k0 == 6) = false := by simpa using h6
  have e0 : decide (k0 < 0) = false := by rw [decide_eq_false_iff_not]; omega
  have e14 : decide (14 < k0) = false := by rw [decide_eq_false_iff_not]; omega
  have d0 : decide (k1 < 0) = false := by rw [decide_eq_false_iff_not]; omega
  have d1 : decide (m ≤ k1) = false := by rw [decide_eq_false_iff_not]; omega
  have d2 : decide (k2 < 0) = false := by rw [decide_eq_false_iff_not]; omega
  have d3 : decide (1048575 < k2) = false := by rw [decide_eq_false_iff_not]; omega
  have d4 : decide (k3 < 0) = false := by rw [decide_eq_false_iff_not]; omega
  have d5 : decide (0 < k3) = true := by rw [decide_eq_true_iff]; omega
  go_enter Try.func8, Try.ntmps8
  go_wp2_with (first | (go_at_call 18; refine (many_is _ _ hm _).mono ?_; rintro e w' ⟨rfl, rfl⟩))
  go_quiet ((go_at_call 18; exact quiet_left (many_is _ _ hm _)))
  go_wp2
  go_ret
  exact ⟨rfl, below_drewN ((Below.refl _ _).alloc (Nat.le_refl _) _) _⟩
set_option maxHeartbeats 1000000 in
theorem valid_D_b6 (k0 k1 k2 k3 k4 m : Int) (h0 : 0 ≤ k0) (h14 : k0 ≤ 14) (h1 : ¬ k0 = 1) (h2 : ¬ k0 = 2) (h3 : ¬ k0 = 3) (h5 : ¬ k0 = 5) (h6 : ¬ k0 = 6) (hm : Hid (manyOf k0 = m)) (hm1 : 1 < m) (g0 : 0 ≤ k1) (g1 : k1 < m) (g2 : 0 ≤ k2) (g3 : k2 ≤ 1048575) (g4 : 0 ≤ k3) (g5 : k3 ≤ 0) (g : ¬ k4 ≤ 0) (w : World) :
    Calls Try.prog 8 #[Value.agg #[.int .i64 k0, .int .i64 k1, .int .i64 k2, .int .i64 k3, .int .u32 k4]] w fun e w' => e = .returned (.int .i64 103) ∧ Below w.heap.size w w' := by
  have e1 : (k0 == 1) = false := by simpa using h1
  have e2 : (k0 == 2) = false := by simpa using h2
  have e3 : (k0 == 3) = false := by simpa using h3
  have e5 : (k0 == 5) = false := by simpa using h5
  have e6 : (k0 == 6) = false := by simpa using h6
  have e0 : decide (k0 < 0) = false := by rw [decide_eq_false_iff_not]; omega
  have e14 : decide (14 < k0) = false := by rw [decide_eq_false_iff_not]; omega
  have d0 : decide (k1 < 0) = false := by rw [decide_eq_false_iff_not]; omega
  have d1 : decide (m ≤ k1) = false := by rw [decide_eq_false_iff_not]; omega
  have d2 : decide (k2 < 0) = false := by rw [decide_eq_false_iff_not]; omega
  have d3 : decide (1048575 < k2) = false := by rw [decide_eq_false_iff_not]; omega
  have d4 : decide (k3 < 0) = false := by rw [decide_eq_false_iff_not]; omega
  have d5 : decide (0 < k3) = false := by rw [decide_eq_false_iff_not]; omega
  have d6 : decide (0 < k4) = true := by rw [decide_eq_true_iff]; omega
  go_enter Try.func8, Try.ntmps8
  go_wp2_with (first | (go_at_call 18; refine (many_is _ _ hm _).mono ?_; rintro e w' ⟨rfl, rfl⟩))
  go_quiet ((go_at_call 18; exact quiet_left (many_is _ _ hm _)))
  go_wp2
  go_ret
  exact ⟨rfl, below_drewN ((Below.refl _ _).alloc (Nat.le_refl _) _) _⟩
end Go.Proofs.Ytahhnfhnlffmpaa
