/-
  ValidE, ValidZ, Np, Nq, Kr, Nr: what NodePlays reaches of them.
-/
import Derived.Test.YtdcdfaeokbdalaaDoorQN1
namespace Go.Proofs.YtdcdfaeokbdalaaDoor
open Go.ChangeShapes Go.WideShapes Go.ChangeAt Go.RowKit
set_option linter.unusedVariables false
set_option maxHeartbeats 1000000 in
theorem valid_F_ok (k0 k1 k2 k3 k4 : Int) (h0 : 0 ≤ k0) (h14 : k0 ≤ 14) (h1 : ¬ k0 = 1) (h2 : ¬ k0 = 2) (h3 : ¬ k0 = 3) (h5 : ¬ k0 = 5) (h6 : ¬ k0 = 6) (hm : Hid (manyOf k0 = 1)) (g1 : 0 ≤ k1) (g2 : k1 < 1) (g3 : 0 ≤ k2) (g4 : k2 ≤ 0) (g5 : 0 ≤ k3) (g6 : k3 ≤ 0) (g7 : k4 ≤ 0) (w : World) :
    Calls Tryd.prog 37 #[Value.agg #[.int .i64 k0, .int .i64 k1, .int .i64 k2, .int .i64 k3, .int .u32 k4]] w fun e w' => e = .returned (.int .i64 0) ∧ Below w.heap.size w w' := by
  have e1 : (k0 == 1) = false := by simpa using h1
  have e2 : (k0 == 2) = false := by simpa using h2
  have e3 : (k0 == 3) = false := by simpa using h3
  have e5 : (k0 == 5) = false := by simpa using h5
  have e6 : (k0 == 6) = false := by simpa using h6
  have e0 : decide (k0 < 0) = false := by rw [decide_eq_false_iff_not]; omega
  have e14 : decide (14 < k0) = false := by rw [decide_eq_false_iff_not]; omega
  have d0 : decide (k1 < 0) = false := by rw [decide_eq_false_iff_not]; omega
  have d1 : decide (1 ≤ k1) = false := by rw [decide_eq_false_iff_not]; omega
  have d2 : decide (k2 < 0) = false := by rw [decide_eq_false_iff_not]; omega
  have d3 : decide (0 < k2) = false := by rw [decide_eq_false_iff_not]; omega
  have d4 : decide (k3 < 0) = false := by rw [decide_eq_false_iff_not]; omega
  have d5 : decide (0 < k3) = false := by rw [decide_eq_false_iff_not]; omega
  have d6 : decide (0 < k4) = false := by rw [decide_eq_false_iff_not]; omega
  go_enter Tryd.func37, Tryd.ntmps37
  go_wp2_with (first | (go_at_call 99; refine (many_is _ _ hm _).mono ?_; rintro e w' ⟨rfl, rfl⟩))
  go_quiet ((go_at_call 99; exact quiet_left (many_is _ _ hm _)))
  go_wp2
  go_ret
  exact ⟨rfl, below_drewN ((Below.refl _ _).alloc (Nat.le_refl _) _) _⟩
set_option maxHeartbeats 1000000 in
theorem valid_F_b0 (k0 k1 k2 k3 k4 : Int) (h0 : 0 ≤ k0) (h14 : k0 ≤ 14) (h1 : ¬ k0 = 1) (h2 : ¬ k0 = 2) (h3 : ¬ k0 = 3) (h5 : ¬ k0 = 5) (h6 : ¬ k0 = 6) (hm : Hid (manyOf k0 = 1))  (g : ¬ 0 ≤ k1) (w : World) :
    Calls Tryd.prog 37 #[Value.agg #[.int .i64 k0, .int .i64 k1, .int .i64 k2, .int .i64 k3, .int .u32 k4]] w fun e w' => e = .returned (.int .i64 103) ∧ Below w.heap.size w w' := by
  have e1 : (k0 == 1) = false := by simpa using h1
  have e2 : (k0 == 2) = false := by simpa using h2
  have e3 : (k0 == 3) = false := by simpa using h3
  have e5 : (k0 == 5) = false := by simpa using h5
  have e6 : (k0 == 6) = false := by simpa using h6
  have e0 : decide (k0 < 0) = false := by rw [decide_eq_false_iff_not]; omega
  have e14 : decide (14 < k0) = false := by rw [decide_eq_false_iff_not]; omega
  have d0 : decide (k1 < 0) = true := by rw [decide_eq_true_iff]; omega
  go_enter Tryd.func37, Tryd.ntmps37
  go_wp2_with (first | (go_at_call 99; refine (many_is _ _ hm _).mono ?_; rintro e w' ⟨rfl, rfl⟩))
  go_quiet ((go_at_call 99; exact quiet_left (many_is _ _ hm _)))
  go_wp2
  go_ret
  exact ⟨rfl, below_drewN ((Below.refl _ _).alloc (Nat.le_refl _) _) _⟩
set_option maxHeartbeats 1000000 in
theorem valid_F_b1 (k0 k1 k2 k3 k4 : Int) (h0 : 0 ≤ k0) (h14 : k0 ≤ 14) (h1 : ¬ k0 = 1) (h2 : ¬ k0 = 2) (h3 : ¬ k0 = 3) (h5 : ¬ k0 = 5) (h6 : ¬ k0 = 6) (hm : Hid (manyOf k0 = 1)) (g0 : 0 ≤ k1) (g : ¬ k1 < 1) (w : World) :
    Calls Tryd.prog 37 #[Value.agg #[.int .i64 k0, .int .i64 k1, .int .i64 k2, .int .i64 k3, .int .u32 k4]] w fun e w' => e = .returned (.int .i64 103) ∧ Below w.heap.size w w' := by
  have e1 : (k0 == 1) = false := by simpa using h1
  have e2 : (k0 == 2) = false := by simpa using h2
  have e3 : (k0 == 3) = false := by simpa using h3
  have e5 : (k0 == 5) = false := by simpa using h5
  have e6 : (k0 == 6) = false := by simpa using h6
  have e0 : decide (k0 < 0) = false := by rw [decide_eq_false_iff_not]; omega
  have e14 : decide (14 < k0) = false := by rw [decide_eq_false_iff_not]; omega
  have d0 : decide (k1 < 0) = false := by rw [decide_eq_false_iff_not]; omega
  have d1 : decide (1 ≤ k1) = true := by rw [decide_eq_true_iff]; omega
  go_enter Tryd.func37, Tryd.ntmps37
  go_wp2_with (first | (go_at_call 99; refine (many_is _ _ hm _).mono ?_; rintro e w' ⟨rfl, rfl⟩))
  go_quiet ((go_at_call 99; exact quiet_left (many_is _ _ hm _)))
  go_wp2
  go_ret
  exact ⟨rfl, below_drewN ((Below.refl _ _).alloc (Nat.le_refl _) _) _⟩
set_option maxHeartbeats 1000000 in
theorem valid_F_b2 (k0 k1 k2 k3 k4 : Int) (h0 : 0 ≤ k0) (h14 : k0 ≤ 14) (h1 : ¬ k0 = 1) (h2 : ¬ k0 = 2) (h3 : ¬ k0 = 3) (h5 : ¬ k0 = 5) (h6 : ¬ k0 = 6) (hm : Hid (manyOf k0 = 1)) (g0 : 0 ≤ k1) (g1 : k1 < 1) (g : ¬ 0 ≤ k2) (w : World) :
    Calls Tryd.prog 37 #[Value.agg #[.int .i64 k0, .int .i64 k1, .int .i64 k2, .int .i64 k3, .int .u32 k4]] w fun e w' => e = .returned (.int .i64 103) ∧ Below w.heap.size w w' := by
  have e1 : (k0 == 1) = false := by simpa using h1
  have e2 : (k0 == 2) = false := by simpa using h2
  have e3 : (k0 == 3) = false := by simpa using h3
  have e5 : (k0 == 5) = false := by simpa using h5
  have e6 : (k0 == 6) = false := by simpa using h6
  have e0 : decide (k0 < 0) = false := by rw [decide_eq_false_iff_not]; omega
  have e14 : decide (14 < k0) = false := by rw [decide_eq_false_iff_not]; omega
  have d0 : decide (k1 < 0) = false := by rw [decide_eq_false_iff_not]; omega
  have d1 : decide (1 ≤ k1) = false := by rw [decide_eq_false_iff_not]; omega
  have d2 : decide (k2 < 0) = true := by rw [decide_eq_true_iff]; omega
  go_enter Tryd.func37, Tryd.ntmps37
  go_wp2_with (first | (go_at_call 99; refine (many_is _ _ hm _).mono ?_; rintro e w' ⟨rfl, rfl⟩))
  go_quiet ((go_at_call 99; exact quiet_left (many_is _ _ hm _)))
  go_wp2
  go_ret
  exact ⟨rfl, below_drewN ((Below.refl _ _).alloc (Nat.le_refl _) _) _⟩
set_option maxHeartbeats 1000000 in
theorem valid_F_b3 (k0 k1 k2 k3 k4 : Int) (h0 : 0 ≤ k0) (h14 : k0 ≤ 14) (h1 : ¬ k0 = 1) (h2 : ¬ k0 = 2) (h3 : ¬ k0 = 3) (h5 : ¬ k0 = 5) (h6 : ¬ k0 = 6) (hm : Hid (manyOf k0 = 1)) (g0 : 0 ≤ k1) (g1 : k1 < 1) (g2 : 0 ≤ k2) (g : ¬ k2 ≤ 0) (w : World) :
    Calls Tryd.prog 37 #[Value.agg #[.int .i64 k0, .int .i64 k1, .int .i64 k2, .int .i64 k3, .int .u32 k4]] w fun e w' => e = .returned (.int .i64 103) ∧ Below w.heap.size w w' := by
  have e1 : (k0 == 1) = false := by simpa using h1
  have e2 : (k0 == 2) = false := by simpa using h2
  have e3 : (k0 == 3) = false := by simpa using h3
  have e5 : (k0 == 5) = false := by simpa using h5
  have e6 : (k0 == 6) = false := by simpa using h6
  have e0 : decide (k0 < 0) = false := by rw [decide_eq_false_iff_not]; omega
  have e14 : decide (14 < k0) = false := by rw [decide_eq_false_iff_not]; omega
  have d0 : decide (k1 < 0) = false := by rw [decide_eq_false_iff_not]; omega
  have d1 : decide (1 ≤ k1) = false := by rw [decide_eq_false_iff_not]; omega
  have d2 : decide (k2 < 0) = false := by rw [decide_eq_false_iff_not]; omega
  have d3 : decide (0 < k2) = true := by rw [decide_eq_true_iff]; omega
  go_enter Tryd.func37, Tryd.ntmps37
  go_wp2_with (first | (go_at_call 99; refine (many_is _ _ hm _).mono ?_; rintro e w' ⟨rfl, rfl⟩))
  go_quiet ((go_at_call 99; exact quiet_left (many_is _ _ hm _)))
  go_wp2
  go_ret
  exact ⟨rfl, below_drewN ((Below.refl _ _).alloc (Nat.le_refl _) _) _⟩
set_option maxHeartbeats 1000000 in
theorem valid_F_b4 (k0 k1 k2 k3 k4 : Int) (h0 : 0 ≤ k0) (h14 : k0 ≤ 14) (h1 : ¬ k0 = 1) (h2 : ¬ k0 = 2) (h3 : ¬ k0 = 3) (h5 : ¬ k0 = 5) (h6 : ¬ k0 = 6) (hm : Hid (manyOf k0 = 1)) (g0 : 0 ≤ k1) (g1 : k1 < 1) (g2 : 0 ≤ k2) (g3 : k2 ≤ 0) (g : ¬ 0 ≤ k3) (w : World) :
    Calls Tryd.prog 37 #[Value.agg #[.int .i64 k0, .int .i64 k1, .int .i64 k2, .int .i64 k3, .int .u32 k4]] w fun e w' => e = .returned (.int .i64 103) ∧ Below w.heap.size w w' := by
  have e1 : (k0 == 1) = false := by simpa using h1
  have e2 : (k0 == 2) = false := by simpa using h2
  have e3 : (k0 == 3) = false := by simpa using h3
  have e5 : (k0 == 5) = false := by simpa using h5
  have e6 : (k0 == 6) = false := by simpa using h6
  have e0 : decide (k0 < 0) = false := by rw [decide_eq_false_iff_not]; omega
  have e14 : decide (14 < k0) = false := by rw [decide_eq_false_iff_not]; omega
  have d0 : decide (k1 < 0) = false := by rw [decide_eq_false_iff_not]; omega
  have d1 : decide (1 ≤ k1) = false := by rw [decide_eq_false_iff_not]; omega
  have d2 : decide (k2 < 0) = false := by rw [decide_eq_false_iff_not]; omega
  have d3 : decide (0 < k2) = false := by rw [decide_eq_false_iff_not]; omega
  have d4 : decide (k3 < 0) = true := by rw [decide_eq_true_iff]; omega
  go_enter Tryd.func37, Tryd.ntmps37
  go_wp2_with (first | (go_at_call 99; refine (many_is _ _ hm _).mono ?_; rintro e w' ⟨rfl, rfl⟩))
  go_quiet ((go_at_call 99; exact quiet_left (many_is _ _ hm _)))
  go_wp2
  go_ret
  exact ⟨rfl, below_drewN ((Below.refl _ _).alloc (Nat.le_refl _) _) _⟩
set_option maxHeartbeats 1000000 in
theorem valid_F_b5 (k0 k1 k2 k3 k4 : Int) (h0 : 0 ≤ k0) (h14 : k0 ≤ 14) (h1 : ¬ k0 = 1) (h2 : ¬ k0 = 2) (h3 : ¬ k0 = 3) (h5 : ¬ k0 = 5) (h6 : ¬ k0 = 6) (hm : Hid (manyOf k0 = 1)) (g0 : 0 ≤ k1) (g1 : k1 < 1) (g2 : 0 ≤ k2) (g3 : k2 ≤ 0) (g4 : 0 ≤ k3) (g : ¬ k3 ≤ 0) (w : World) :
    Calls Tryd.prog 37 #[Value.agg #[.int .i64 k0, .int .i64 k1, .int .i64 k2, .int .i64 k3, .int .u32 k4]] w fun e w' => e = .returned (.int .i64 103) ∧ Below w.heap.size w w' := by
  have e1 : (k0 == 1) = false := by simpa using h1
  have e2 : (k0 == 2) = false := by simpa using h2
  have e3 : (k0 == 3) = false := by simpa using h3
  have e5 : (k0 == 5) = false := by simpa using h5
  have e6 : (k0 == 6) = false := by simpa using h6
  have e0 : decide (k0 < 0) = false := by rw [decide_eq_false_iff_not]; omega
  have e14 : decide (14 < k0) = false := by rw [decide_eq_false_iff_not]; omega
  have d0 : decide (k1 < 0) = false := by rw [decide_eq_false_iff_not]; omega
  have d1 : decide (1 ≤ k1) = false := by rw [decide_eq_false_iff_not]; omega
  have d2 : decide (k2 < 0) = false := by rw [decide_eq_false_iff_not]; omega
  have d3 : decide (0 < k2) = false := by rw [decide_eq_false_iff_not]; omega
  have d4 : decide (k3 < 0) = false := by rw [decide_eq_false_iff_not]; omega
  have d5 : decide (0 < k3) = true := by rw [decide_eq_true_iff]; omega
  go_enter Tryd.func37, Tryd.ntmps37
  go_wp2_with (first | (go_at_call 99; refine (many_is _ _ hm _).mono ?_; rintro e w' ⟨rfl, rfl⟩))
  go_quiet ((go_at_call 99; exact quiet_left (many_is _ _ hm _)))
  go_wp2
  go_ret
  exact ⟨rfl, below_drewN ((Below.refl _ _).alloc (Nat.le_refl _) _) _⟩
set_option maxHeartbeats 1000000 in
theorem valid_F_b6 (k0 k1 k2 k3 k4 : Int) (h0 : 0 ≤ k0) (h14 : k0 ≤ 14) (h1 : ¬ k0 = 1) (h2 : ¬ k0 = 2) (h3 : ¬ k0 = 3) (h5 : ¬ k0 = 5) (h6 : ¬ k0 = 6) (hm : Hid (manyOf k0 = 1)) (g0 : 0 ≤ k1) (g1 : k1 < 1) (g2 : 0 ≤ k2) (g3 : k2 ≤ 0) (g4 : 0 ≤ k3) (g5 : k3 ≤ 0) (g : ¬ k4 ≤ 0) (w : World) :
    Calls Tryd.prog 37 #[Value.agg #[.int .i64 k0, .int .i64 k1, .int .i64 k2, .int .i64 k3, .int .u32 k4]] w fun e w' => e = .returned (.int .i64 103) ∧ Below w.heap.size w w' := by
  have e1 : (k0 == 1) = false := by simpa using h1
  have e2 : (k0 == 2) = false := by simpa using h2
  have e3 : (k0 == 3) = false := by simpa using h3
  have e5 : (k0 == 5) = false := by simpa using h5
  have e6 : (k0 == 6) = false := by simpa using h6
  have e0 : decide (k0 < 0) = false := by rw [decide_eq_false_iff_not]; omega
  have e14 : decide (14 < k0) = false := by rw [decide_eq_false_iff_not]; omega
  have d0 : decide (k1 < 0) = false := by rw [decide_eq_false_iff_not]; omega
  have d1 : decide (1 ≤ k1) = false := by rw [decide_eq_false_iff_not]; omega
  have d2 : decide (k2 < 0) = false := by rw [decide_eq_false_iff_not]; omega
  have d3 : decide (0 < k2) = false := by rw [decide_eq_false_iff_not]; omega
  have d4 : decide (k3 < 0) = false := by rw [decide_eq_false_iff_not]; omega
  have d5 : decide (0 < k3) = false := by rw [decide_eq_false_iff_not]; omega
  have d6 : decide (0 < k4) = true := by rw [decide_eq_true_iff]; omega
  go_enter Tryd.func37, Tryd.ntmps37
  go_wp2_with (first | (go_at_call 99; refine (many_is _ _ hm _).mono ?_; rintro e w' ⟨rfl, rfl⟩))
  go_quiet ((go_at_call 99; exact quiet_left (many_is _ _ hm _)))
  go_wp2
  go_ret
  exact ⟨rfl, below_drewN ((Below.refl _ _).alloc (Nat.le_refl _) _) _⟩
end Go.Proofs.YtdcdfaeokbdalaaDoor
namespace Go.Proofs.YtdcdfaeokbdalaaDoor
open Go.ChangeShapes Go.WideShapes Go.ChangeAt Go.RowKit
set_option linter.unusedVariables false
def mostOf (k : Int) : Int := if 1 < manyOf k then 1048575 else 0
def rightsOf (k : Int) : Int := if k = 2 ∨ k = 3 then 7 else 0
def dataOf (k : Int) : Int := if k = 1 then 4294967295 else if k = 2 then 4 else if k = 5 ∨ k = 6 then 536870911 else 0
def InB (k0 k1 k2 k3 k4 : Int) : Prop := 0 ≤ k1 ∧ k1 < manyOf k0 ∧ 0 ≤ k2 ∧ k2 ≤ mostOf k0 ∧ 0 ≤ k3 ∧ k3 ≤ rightsOf k0 ∧ k4 ≤ dataOf k0
instance (k0 k1 k2 k3 k4 : Int) : Decidable (InB k0 k1 k2 k3 k4) := by unfold InB; infer_instance
/-- The error's number of a key that may not be; 0: it may. -/
def codeOf (k0 k1 k2 k3 k4 : Int) : Int := if k0 < 0 ∨ 14 < k0 then 102 else if InB k0 k1 k2 k3 k4 then 0 else 103
theorem codeOf_102 (k0 k1 k2 k3 k4 : Int) (h : k0 < 0 ∨ 14 < k0) : codeOf k0 k1 k2 k3 k4 = 102 := by unfold codeOf; rw [if_pos h]
theorem codeOf_0 (k0 k1 k2 k3 k4 : Int) (h : ¬ (k0 < 0 ∨ 14 < k0)) (hi : InB k0 k1 k2 k3 k4) : codeOf k0 k1 k2 k3 k4 = 0 := by unfold codeOf; rw [if_neg h, if_pos hi]
theorem codeOf_103 (k0 k1 k2 k3 k4 : Int) (h : ¬ (k0 < 0 ∨ 14 < k0)) (hi : ¬ InB k0 k1 k2 k3 k4) : codeOf k0 k1 k2 k3 k4 = 103 := by unfold codeOf; rw [if_neg h, if_neg hi]
theorem valid_1 (k1 k2 k3 k4 : Int) (gu : k4 ≤ 4294967295) (w : World) : Calls Tryd.prog 37 #[Value.agg #[.int .i64 1, .int .i64 k1, .int .i64 k2, .int .i64 k3, .int .u32 k4]] w fun e w' => e = .returned (.int .i64 (codeOf 1 k1 k2 k3 k4)) ∧ Below w.heap.size w w' := by
  have hm : manyOf 1 = 1 := rfl
  have nk : ¬ ((1 : Int) < 0 ∨ 14 < (1 : Int)) := by omega
  have hmo : mostOf 1 = 0 := rfl
  have hrg : rightsOf 1 = 0 := rfl
  have hda : dataOf 1 = 4294967295 := rfl
  by_cases g0 : 0 ≤ k1
  rotate_left
  · rw [codeOf_103 _ _ _ _ _ nk (by unfold InB; rw [hm, hmo, hrg, hda]; omega)]; exact valid_1_b0 k1 k2 k3 k4 (Lib.hid hm)  g0 w
  by_cases g1 : k1 < 1
  rotate_left
  · rw [codeOf_103 _ _ _ _ _ nk (by unfold InB; rw [hm, hmo, hrg, hda]; omega)]; exact valid_1_b1 k1 k2 k3 k4 (Lib.hid hm) g0 g1 w
  by_cases g2 : 0 ≤ k2
  rotate_left
  · rw [codeOf_103 _ _ _ _ _ nk (by unfold InB; rw [hm, hmo, hrg, hda]; omega)]; exact valid_1_b2 k1 k2 k3 k4 (Lib.hid hm) g0 g1 g2 w
  by_cases g3 : k2 ≤ 0
  rotate_left
  · rw [codeOf_103 _ _ _ _ _ nk (by unfold InB; rw [hm, hmo, hrg, hda]; omega)]; exact valid_1_b3 k1 k2 k3 k4 (Lib.hid hm) g0 g1 g2 g3 w
  by_cases g4 : 0 ≤ k3
  rotate_left
  · rw [codeOf_103 _ _ _ _ _ nk (by unfold InB; rw [hm, hmo, hrg, hda]; omega)]; exact valid_1_b4 k1 k2 k3 k4 (Lib.hid hm) g0 g1 g2 g3 g4 w
  by_cases g5 : k3 ≤ 0
  rotate_left
  · rw [codeOf_103 _ _ _ _ _ nk (by unfold InB; rw [hm, hmo, hrg, hda]; omega)]; exact valid_1_b5 k1 k2 k3 k4 (Lib.hid hm) g0 g1 g2 g3 g4 g5 w
  by_cases g6 : k4 ≤ 4294967295
  rotate_left
  · rw [codeOf_103 _ _ _ _ _ nk (by unfold InB; rw [hm, hmo, hrg, hda]; omega)]; exact valid_1_b6 k1 k2 k3 k4 (Lib.hid hm) g0 g1 g2 g3 g4 g5 g6 gu w
  rw [codeOf_0 _ _ _ _ _ nk (by unfold InB; rw [hm, hmo, hrg, hda]; omega)]; exact valid_1_ok k1 k2 k3 k4 (Lib.hid hm) g0 g1 g2 g3 g4 g5 g6 w
theorem valid_2 (k1 k2 k3 k4 : Int) (gu : k4 ≤ 4294967295) (w : World) : Calls Tryd.prog 37 #[Value.agg #[.int .i64 2, .int .i64 k1, .int .i64 k2, .int .i64 k3, .int .u32 k4]] w fun e w' => e = .returned (.int .i64 (codeOf 2 k1 k2 k3 k4)) ∧ Below w.heap.size w w' := by
  have hm : manyOf 2 = 256 := rfl
  have nk : ¬ ((2 : Int) < 0 ∨ 14 < (2 : Int)) := by omega
  have hmo : mostOf 2 = 1048575 := rfl
  have hrg : rightsOf 2 = 7 := rfl
  have hda : dataOf 2 = 4 := rfl
  by_cases g0 : 0 ≤ k1
  rotate_left
  · rw [codeOf_103 _ _ _ _ _ nk (by unfold InB; rw [hm, hmo, hrg, hda]; omega)]; exact valid_2_b0 k1 k2 k3 k4 (Lib.hid hm)  g0 w
  by_cases g1 : k1 < 256
  rotate_left
  · rw [codeOf_103 _ _ _ _ _ nk (by unfold InB; rw [hm, hmo, hrg, hda]; omega)]; exact valid_2_b1 k1 k2 k3 k4 (Lib.hid hm) g0 g1 w
  by_cases g2 : 0 ≤ k2
  rotate_left
  · rw [codeOf_103 _ _ _ _ _ nk (by unfold InB; rw [hm, hmo, hrg, hda]; omega)]; exact valid_2_b2 k1 k2 k3 k4 (Lib.hid hm) g0 g1 g2 w
  by_cases g3 : k2 ≤ 1048575
  rotate_left
  · rw [codeOf_103 _ _ _ _ _ nk (by unfold InB; rw [hm, hmo, hrg, hda]; omega)]; exact valid_2_b3 k1 k2 k3 k4 (Lib.hid hm) g0 g1 g2 g3 w
  by_cases g4 : 0 ≤ k3
  rotate_left
  · rw [codeOf_103 _ _ _ _ _ nk (by unfold InB; rw [hm, hmo, hrg, hda]; omega)]; exact valid_2_b4 k1 k2 k3 k4 (Lib.hid hm) g0 g1 g2 g3 g4 w
  by_cases g5 : k3 ≤ 7
  rotate_left
  · rw [codeOf_103 _ _ _ _ _ nk (by unfold InB; rw [hm, hmo, hrg, hda]; omega)]; exact valid_2_b5 k1 k2 k3 k4 (Lib.hid hm) g0 g1 g2 g3 g4 g5 w
  by_cases g6 : k4 ≤ 4
  rotate_left
  · rw [codeOf_103 _ _ _ _ _ nk (by unfold InB; rw [hm, hmo, hrg, hda]; omega)]; exact valid_2_b6 k1 k2 k3 k4 (Lib.hid hm) g0 g1 g2 g3 g4 g5 g6 w
  rw [codeOf_0 _ _ _ _ _ nk (by unfold InB; rw [hm, hmo, hrg, hda]; omega)]; exact valid_2_ok k1 k2 k3 k4 (Lib.hid hm) g0 g1 g2 g3 g4 g5 g6 w
theorem valid_3 (k1 k2 k3 k4 : Int) (gu : k4 ≤ 4294967295) (w : World) : Calls Tryd.prog 37 #[Value.agg #[.int .i64 3, .int .i64 k1, .int .i64 k2, .int .i64 k3, .int .u32 k4]] w fun e w' => e = .returned (.int .i64 (codeOf 3 k1 k2 k3 k4)) ∧ Below w.heap.size w w' := by
  have hm : manyOf 3 = 256 := rfl
  have nk : ¬ ((3 : Int) < 0 ∨ 14 < (3 : Int)) := by omega
  have hmo : mostOf 3 = 1048575 := rfl
  have hrg : rightsOf 3 = 7 := rfl
  have hda : dataOf 3 = 0 := rfl
  by_cases g0 : 0 ≤ k1
  rotate_left
  · rw [codeOf_103 _ _ _ _ _ nk (by unfold InB; rw [hm, hmo, hrg, hda]; omega)]; exact valid_3_b0 k1 k2 k3 k4 (Lib.hid hm)  g0 w
  by_cases g1 : k1 < 256
  rotate_left
  · rw [codeOf_103 _ _ _ _ _ nk (by unfold InB; rw [hm, hmo, hrg, hda]; omega)]; exact valid_3_b1 k1 k2 k3 k4 (Lib.hid hm) g0 g1 w
  by_cases g2 : 0 ≤ k2
  rotate_left
  · rw [codeOf_103 _ _ _ _ _ nk (by unfold InB; rw [hm, hmo, hrg, hda]; omega)]; exact valid_3_b2 k1 k2 k3 k4 (Lib.hid hm) g0 g1 g2 w
  by_cases g3 : k2 ≤ 1048575
  rotate_left
  · rw [codeOf_103 _ _ _ _ _ nk (by unfold InB; rw [hm, hmo, hrg, hda]; omega)]; exact valid_3_b3 k1 k2 k3 k4 (Lib.hid hm) g0 g1 g2 g3 w
  by_cases g4 : 0 ≤ k3
  rotate_left
  · rw [codeOf_103 _ _ _ _ _ nk (by unfold InB; rw [hm, hmo, hrg, hda]; omega)]; exact valid_3_b4 k1 k2 k3 k4 (Lib.hid hm) g0 g1 g2 g3 g4 w
  by_cases g5 : k3 ≤ 7
  rotate_left
  · rw [codeOf_103 _ _ _ _ _ nk (by unfold InB; rw [hm, hmo, hrg, hda]; omega)]; exact valid_3_b5 k1 k2 k3 k4 (Lib.hid hm) g0 g1 g2 g3 g4 g5 w
  by_cases g6 : k4 ≤ 0
  rotate_left
  · rw [codeOf_103 _ _ _ _ _ nk (by unfold InB; rw [hm, hmo, hrg, hda]; omega)]; exact valid_3_b6 k1 k2 k3 k4 (Lib.hid hm) g0 g1 g2 g3 g4 g5 g6 w
  rw [codeOf_0 _ _ _ _ _ nk (by unfold InB; rw [hm, hmo, hrg, hda]; omega)]; exact valid_3_ok k1 k2 k3 k4 (Lib.hid hm) g0 g1 g2 g3 g4 g5 g6 w
theorem valid_5 (k1 k2 k3 k4 : Int) (gu : k4 ≤ 4294967295) (w : World) : Calls Tryd.prog 37 #[Value.agg #[.int .i64 5, .int .i64 k1, .int .i64 k2, .int .i64 k3, .int .u32 k4]] w fun e w' => e = .returned (.int .i64 (codeOf 5 k1 k2 k3 k4)) ∧ Below w.heap.size w w' := by
  have hm : manyOf 5 = 32 := rfl
  have nk : ¬ ((5 : Int) < 0 ∨ 14 < (5 : Int)) := by omega
  have hmo : mostOf 5 = 1048575 := rfl
  have hrg : rightsOf 5 = 0 := rfl
  have hda : dataOf 5 = 536870911 := rfl
  by_cases g0 : 0 ≤ k1
  rotate_left
  · rw [codeOf_103 _ _ _ _ _ nk (by unfold InB; rw [hm, hmo, hrg, hda]; omega)]; exact valid_5_b0 k1 k2 k3 k4 (Lib.hid hm)  g0 w
  by_cases g1 : k1 < 32
  rotate_left
  · rw [codeOf_103 _ _ _ _ _ nk (by unfold InB; rw [hm, hmo, hrg, hda]; omega)]; exact valid_5_b1 k1 k2 k3 k4 (Lib.hid hm) g0 g1 w
  by_cases g2 : 0 ≤ k2
  rotate_left
  · rw [codeOf_103 _ _ _ _ _ nk (by unfold InB; rw [hm, hmo, hrg, hda]; omega)]; exact valid_5_b2 k1 k2 k3 k4 (Lib.hid hm) g0 g1 g2 w
  by_cases g3 : k2 ≤ 1048575
  rotate_left
  · rw [codeOf_103 _ _ _ _ _ nk (by unfold InB; rw [hm, hmo, hrg, hda]; omega)]; exact valid_5_b3 k1 k2 k3 k4 (Lib.hid hm) g0 g1 g2 g3 w
  by_cases g4 : 0 ≤ k3
  rotate_left
  · rw [codeOf_103 _ _ _ _ _ nk (by unfold InB; rw [hm, hmo, hrg, hda]; omega)]; exact valid_5_b4 k1 k2 k3 k4 (Lib.hid hm) g0 g1 g2 g3 g4 w
  by_cases g5 : k3 ≤ 0
  rotate_left
  · rw [codeOf_103 _ _ _ _ _ nk (by unfold InB; rw [hm, hmo, hrg, hda]; omega)]; exact valid_5_b5 k1 k2 k3 k4 (Lib.hid hm) g0 g1 g2 g3 g4 g5 w
  by_cases g6 : k4 ≤ 536870911
  rotate_left
  · rw [codeOf_103 _ _ _ _ _ nk (by unfold InB; rw [hm, hmo, hrg, hda]; omega)]; exact valid_5_b6 k1 k2 k3 k4 (Lib.hid hm) g0 g1 g2 g3 g4 g5 g6 w
  rw [codeOf_0 _ _ _ _ _ nk (by unfold InB; rw [hm, hmo, hrg, hda]; omega)]; exact valid_5_ok k1 k2 k3 k4 (Lib.hid hm) g0 g1 g2 g3 g4 g5 g6 w
theorem valid_6 (k1 k2 k3 k4 : Int) (gu : k4 ≤ 4294967295) (w : World) : Calls Tryd.prog 37 #[Value.agg #[.int .i64 6, .int .i64 k1, .int .i64 k2, .int .i64 k3, .int .u32 k4]] w fun e w' => e = .returned (.int .i64 (codeOf 6 k1 k2 k3 k4)) ∧ Below w.heap.size w w' := by
  have hm : manyOf 6 = 32 := rfl
  have nk : ¬ ((6 : Int) < 0 ∨ 14 < (6 : Int)) := by omega
  have hmo : mostOf 6 = 1048575 := rfl
  have hrg : rightsOf 6 = 0 := rfl
  have hda : dataOf 6 = 536870911 := rfl
  by_cases g0 : 0 ≤ k1
  rotate_left
  · rw [codeOf_103 _ _ _ _ _ nk (by unfold InB; rw [hm, hmo, hrg, hda]; omega)]; exact valid_6_b0 k1 k2 k3 k4 (Lib.hid hm)  g0 w
  by_cases g1 : k1 < 32
  rotate_left
  · rw [codeOf_103 _ _ _ _ _ nk (by unfold InB; rw [hm, hmo, hrg, hda]; omega)]; exact valid_6_b1 k1 k2 k3 k4 (Lib.hid hm) g0 g1 w
  by_cases g2 : 0 ≤ k2
  rotate_left
  · rw [codeOf_103 _ _ _ _ _ nk (by unfold InB; rw [hm, hmo, hrg, hda]; omega)]; exact valid_6_b2 k1 k2 k3 k4 (Lib.hid hm) g0 g1 g2 w
  by_cases g3 : k2 ≤ 1048575
  rotate_left
  · rw [codeOf_103 _ _ _ _ _ nk (by unfold InB; rw [hm, hmo, hrg, hda]; omega)]; exact valid_6_b3 k1 k2 k3 k4 (Lib.hid hm) g0 g1 g2 g3 w
  by_cases g4 : 0 ≤ k3
  rotate_left
  · rw [codeOf_103 _ _ _ _ _ nk (by unfold InB; rw [hm, hmo, hrg, hda]; omega)]; exact valid_6_b4 k1 k2 k3 k4 (Lib.hid hm) g0 g1 g2 g3 g4 w
  by_cases g5 : k3 ≤ 0
  rotate_left
  · rw [codeOf_103 _ _ _ _ _ nk (by unfold InB; rw [hm, hmo, hrg, hda]; omega)]; exact valid_6_b5 k1 k2 k3 k4 (Lib.hid hm) g0 g1 g2 g3 g4 g5 w
  by_cases g6 : k4 ≤ 536870911
  rotate_left
  · rw [codeOf_103 _ _ _ _ _ nk (by unfold InB; rw [hm, hmo, hrg, hda]; omega)]; exact valid_6_b6 k1 k2 k3 k4 (Lib.hid hm) g0 g1 g2 g3 g4 g5 g6 w
  rw [codeOf_0 _ _ _ _ _ nk (by unfold InB; rw [hm, hmo, hrg, hda]; omega)]; exact valid_6_ok k1 k2 k3 k4 (Lib.hid hm) g0 g1 g2 g3 g4 g5 g6 w
theorem valid_D (k0 k1 k2 k3 k4 : Int) (h0 : 0 ≤ k0) (h14 : k0 ≤ 14) (h1 : ¬ k0 = 1) (h2 : ¬ k0 = 2) (h3 : ¬ k0 = 3) (h5 : ¬ k0 = 5) (h6 : ¬ k0 = 6) (hm1 : 1 < manyOf k0) (gu : k4 ≤ 4294967295) (w : World) : Calls Tryd.prog 37 #[Value.agg #[.int .i64 k0, .int .i64 k1, .int .i64 k2, .int .i64 k3, .int .u32 k4]] w fun e w' => e = .returned (.int .i64 (codeOf k0 k1 k2 k3 k4)) ∧ Below w.heap.size w w' := by
  have hm : manyOf k0 = (manyOf k0) := rfl
  have nk : ¬ ((k0 : Int) < 0 ∨ 14 < (k0 : Int)) := by omega
  have hmo : mostOf k0 = 1048575 := by unfold mostOf; rw [if_pos hm1]
  have hrg : rightsOf k0 = 0 := by unfold rightsOf; rw [if_neg (by omega)]
  have hda : dataOf k0 = 0 := by unfold dataOf; rw [if_neg h1, if_neg h2, if_neg (by omega)]
  by_cases g0 : 0 ≤ k1
  rotate_left
  · rw [codeOf_103 _ _ _ _ _ nk (by unfold InB; rw [hm, hmo, hrg, hda]; omega)]; exact valid_D_b0 k0 k1 k2 k3 k4 (manyOf k0) h0 h14 h1 h2 h3 h5 h6 (Lib.hid hm) hm1  g0 w
  by_cases g1 : k1 < (manyOf k0)
  rotate_left
  · rw [codeOf_103 _ _ _ _ _ nk (by unfold InB; rw [hm, hmo, hrg, hda]; omega)]; exact valid_D_b1 k0 k1 k2 k3 k4 (manyOf k0) h0 h14 h1 h2 h3 h5 h6 (Lib.hid hm) hm1 g0 g1 w
  by_cases g2 : 0 ≤ k2
  rotate_left
  · rw [codeOf_103 _ _ _ _ _ nk (by unfold InB; rw [hm, hmo, hrg, hda]; omega)]; exact valid_D_b2 k0 k1 k2 k3 k4 (manyOf k0) h0 h14 h1 h2 h3 h5 h6 (Lib.hid hm) hm1 g0 g1 g2 w
  by_cases g3 : k2 ≤ 1048575
  rotate_left
  · rw [codeOf_103 _ _ _ _ _ nk (by unfold InB; rw [hm, hmo, hrg, hda]; omega)]; exact valid_D_b3 k0 k1 k2 k3 k4 (manyOf k0) h0 h14 h1 h2 h3 h5 h6 (Lib.hid hm) hm1 g0 g1 g2 g3 w
  by_cases g4 : 0 ≤ k3
  rotate_left
  · rw [codeOf_103 _ _ _ _ _ nk (by unfold InB; rw [hm, hmo, hrg, hda]; omega)]; exact valid_D_b4 k0 k1 k2 k3 k4 (manyOf k0) h0 h14 h1 h2 h3 h5 h6 (Lib.hid hm) hm1 g0 g1 g2 g3 g4 w
  by_cases g5 : k3 ≤ 0
  rotate_left
  · rw [codeOf_103 _ _ _ _ _ nk (by unfold InB; rw [hm, hmo, hrg, hda]; omega)]; exact valid_D_b5 k0 k1 k2 k3 k4 (manyOf k0) h0 h14 h1 h2 h3 h5 h6 (Lib.hid hm) hm1 g0 g1 g2 g3 g4 g5 w
  by_cases g6 : k4 ≤ 0
  rotate_left
  · rw [codeOf_103 _ _ _ _ _ nk (by unfold InB; rw [hm, hmo, hrg, hda]; omega)]; exact valid_D_b6 k0 k1 k2 k3 k4 (manyOf k0) h0 h14 h1 h2 h3 h5 h6 (Lib.hid hm) hm1 g0 g1 g2 g3 g4 g5 g6 w
  rw [codeOf_0 _ _ _ _ _ nk (by unfold InB; rw [hm, hmo, hrg, hda]; omega)]; exact valid_D_ok k0 k1 k2 k3 k4 (manyOf k0) h0 h14 h1 h2 h3 h5 h6 (Lib.hid hm) hm1 g0 g1 g2 g3 g4 g5 g6 w
theorem valid_F (k0 k1 k2 k3 k4 : Int) (h0 : 0 ≤ k0) (h14 : k0 ≤ 14) (h1 : ¬ k0 = 1) (h2 : ¬ k0 = 2) (h3 : ¬ k0 = 3) (h5 : ¬ k0 = 5) (h6 : ¬ k0 = 6) (hm0 : manyOf k0 = 1) (gu : k4 ≤ 4294967295) (w : World) : Calls Tryd.prog 37 #[Value.agg #[.int .i64 k0, .int .i64 k1, .int .i64 k2, .int .i64 k3, .int .u32 k4]] w fun e w' => e = .returned (.int .i64 (codeOf k0 k1 k2 k3 k4)) ∧ Below w.heap.size w w' := by
  have hm : manyOf k0 = 1 := hm0
  have nk : ¬ ((k0 : Int) < 0 ∨ 14 < (k0 : Int)) := by omega
  have hmo : mostOf k0 = 0 := by unfold mostOf; rw [hm0]; rfl
  have hrg : rightsOf k0 = 0 := by unfold rightsOf; rw [if_neg (by omega)]
  have hda : dataOf k0 = 0 := by unfold dataOf; rw [if_neg h1, if_neg h2, if_neg (by omega)]
  by_cases g0 : 0 ≤ k1
  rotate_left
  · rw [codeOf_103 _ _ _ _ _ nk (by unfold InB; rw [hm, hmo, hrg, hda]; omega)]; exact valid_F_b0 k0 k1 k2 k3 k4 h0 h14 h1 h2 h3 h5 h6 (Lib.hid hm)  g0 w
  by_cases g1 : k1 < 1
  rotate_left
  · rw [codeOf_103 _ _ _ _ _ nk (by unfold InB; rw [hm, hmo, hrg, hda]; omega)]; exact valid_F_b1 k0 k1 k2 k3 k4 h0 h14 h1 h2 h3 h5 h6 (Lib.hid hm) g0 g1 w
  by_cases g2 : 0 ≤ k2
  rotate_left
  · rw [codeOf_103 _ _ _ _ _ nk (by unfold InB; rw [hm, hmo, hrg, hda]; omega)]; exact valid_F_b2 k0 k1 k2 k3 k4 h0 h14 h1 h2 h3 h5 h6 (Lib.hid hm) g0 g1 g2 w
  by_cases g3 : k2 ≤ 0
  rotate_left
  · rw [codeOf_103 _ _ _ _ _ nk (by unfold InB; rw [hm, hmo, hrg, hda]; omega)]; exact valid_F_b3 k0 k1 k2 k3 k4 h0 h14 h1 h2 h3 h5 h6 (Lib.hid hm) g0 g1 g2 g3 w
  by_cases g4 : 0 ≤ k3
  rotate_left
  · rw [codeOf_103 _ _ _ _ _ nk (by unfold InB; rw [hm, hmo, hrg, hda]; omega)]; exact valid_F_b4 k0 k1 k2 k3 k4 h0 h14 h1 h2 h3 h5 h6 (Lib.hid hm) g0 g1 g2 g3 g4 w
  by_cases g5 : k3 ≤ 0
  rotate_left
  · rw [codeOf_103 _ _ _ _ _ nk (by unfold InB; rw [hm, hmo, hrg, hda]; omega)]; exact valid_F_b5 k0 k1 k2 k3 k4 h0 h14 h1 h2 h3 h5 h6 (Lib.hid hm) g0 g1 g2 g3 g4 g5 w
  by_cases g6 : k4 ≤ 0
  rotate_left
  · rw [codeOf_103 _ _ _ _ _ nk (by unfold InB; rw [hm, hmo, hrg, hda]; omega)]; exact valid_F_b6 k0 k1 k2 k3 k4 h0 h14 h1 h2 h3 h5 h6 (Lib.hid hm) g0 g1 g2 g3 g4 g5 g6 w
  rw [codeOf_0 _ _ _ _ _ nk (by unfold InB; rw [hm, hmo, hrg, hda]; omega)]; exact valid_F_ok k0 k1 k2 k3 k4 h0 h14 h1 h2 h3 h5 h6 (Lib.hid hm) g0 g1 g2 g3 g4 g5 g6 w
theorem valid_any (k0 k1 k2 k3 k4 : Int) (gu : k4 ≤ 4294967295) (w : World) : Calls Tryd.prog 37 #[(Value.agg #[.int .i64 k0, .int .i64 k1, .int .i64 k2, .int .i64 k3, .int .u32 k4])] w fun e w' => e = .returned (.int .i64 (codeOf k0 k1 k2 k3 k4)) ∧ Below w.heap.size w w' := by
  by_cases hk : k0 < 0
  · rw [codeOf_102 _ _ _ _ _ (.inl hk)]; exact valid_kind0 k0 k1 k2 k3 k4 hk w
  by_cases hk' : 14 < k0
  · rw [codeOf_102 _ _ _ _ _ (.inr hk')]; exact valid_kind1 k0 k1 k2 k3 k4 hk' w
  by_cases h1 : k0 = 1
  · subst h1; exact valid_1 k1 k2 k3 k4 gu w
  by_cases h2 : k0 = 2
  · subst h2; exact valid_2 k1 k2 k3 k4 gu w
  by_cases h3 : k0 = 3
  · subst h3; exact valid_3 k1 k2 k3 k4 gu w
  by_cases h5 : k0 = 5
  · subst h5; exact valid_5 k1 k2 k3 k4 gu w
  by_cases h6 : k0 = 6
  · subst h6; exact valid_6 k1 k2 k3 k4 gu w
  by_cases hD : k0 = 4 ∨ k0 = 7 ∨ k0 = 8 ∨ k0 = 9 ∨ k0 = 10
  · exact valid_D k0 k1 k2 k3 k4 (by omega) (by omega) h1 h2 h3 h5 h6 (by rcases hD with rfl | rfl | rfl | rfl | rfl <;> decide) gu w
  · exact valid_F k0 k1 k2 k3 k4 (by omega) (by omega) h1 h2 h3 h5 h6 (by unfold manyOf; rw [if_neg (by omega), if_neg (by omega), if_neg (by omega)]) gu w
theorem valid_is (k0 k1 k2 k3 k4 : Int) (c : Int) (h : Hid (codeOf k0 k1 k2 k3 k4 = c)) (gu : k4 ≤ 4294967295) (w : World) : Calls Tryd.prog 37 #[(Value.agg #[.int .i64 k0, .int .i64 k1, .int .i64 k2, .int .i64 k3, .int .u32 k4])] w fun e w' => e = .returned (.int .i64 c) ∧ Below w.heap.size w w' := by
  rw [← h.out]; exact valid_any k0 k1 k2 k3 k4 gu w
end Go.Proofs.YtdcdfaeokbdalaaDoor
namespace Go.Proofs.YtdcdfaeokbdalaaDoor
open Go.ChangeShapes Go.WideShapes Go.ChangeAt Go.RowKit
set_option linter.unusedVariables false
/-- The cells of nodes by their keys. -/
def kW (kk : Nat → Nat → Nat → Int) : Nat → Nat → Value := fun i b => kval (b % 5) (kk i (b / 5) (b % 5))
theorem kW_q (kk : Nat → Nat → Nat → Int) (i s q : Nat) (hq : q < 5) : kW kk i (s * 5 + q) = kval q (kk i s q) := by
  unfold kW
  rw [show (s * 5 + q) % 5 = q by omega, show (s * 5 + q) / 5 = s by omega]
theorem kW_one (kk : Nat → Nat → Nat → Int) (i b : Nat) : (kW kk i b).oneCell' = true := kval_one _ _
theorem zc_kval (b : Nat) : zc b = kval (b % 5) 0 := by unfold zc kval; rfl
theorem flatV_congr {W W' : Nat → Nat → Value} {n : Nat} (h : ∀ i, i < n → ∀ j, j < 80 → W i j = W' i j) : flatV W n = flatV W' n := by
  unfold flatV
  apply List.map_congr_left
  intro j hj
  have := List.mem_range.1 hj
  exact h _ (by omega) _ (by omega)
theorem flatV_one' {W : Nat → Nat → Value} (h : ∀ i j, (W i j).oneCell' = true) (n : Nat) : ∀ u ∈ flatV W n, u.oneCell' = true := by
  intro u hu
  obtain ⟨x, _, rfl⟩ := List.mem_map.1 hu
  exact h _ _
/-- A node made of m keys. -/
def madeK (kk : Nat → Nat → Nat → Int) (j m : Nat) (ks : Nat → Nat → Int) : Nat → Nat → Nat → Int := fun i s q => if i = j then (if s < m then ks s q else 0) else kk i s q
/-- Another key in a slot. -/
def updK (kk : Nat → Nat → Nat → Int) (k s : Nat) (y : Nat → Int) : Nat → Nat → Nat → Int := fun i t q => if i = k ∧ t = s then y q else kk i t q
/-- A key's fields as a function. -/
def kY (y0 y1 y2 y3 y4 : Int) : Nat → Int := fun q => if q = 0 then y0 else if q = 1 then y1 else if q = 2 then y2 else if q = 3 then y3 else y4
theorem kW_fresh (kk : Nat → Nat → Nat → Int) (j m : Nat) (ks : Nat → Nat → Int) (hm : m ≤ 16) (i b : Nat) (hb : b < 80) : freshV (kW kk) j (kcs ks m) i b = kW (madeK kk j m ks) i b := by
  by_cases h : i = j
  · subst h
    obtain ⟨s, q, hq, rfl⟩ : ∃ s q, q < 5 ∧ b = s * 5 + q := ⟨b / 5, b % 5, by omega, by omega⟩
    rw [kW_q _ _ _ _ hq]
    unfold madeK
    rw [if_pos rfl]
    by_cases hs : s < m
    · rw [freshV_q _ _ _ _ _ _ hs hq, if_pos hs]
    · rw [freshV_out _ _ _ _ (by rw [kcs_len]; omega) hb, if_neg hs, zc_kval, show (s * 5 + q) % 5 = q by omega]
  · rw [freshV_other _ _ _ _ _ h]
    unfold kW madeK
    rw [if_neg h]
theorem kW_set (kk : Nat → Nat → Nat → Int) (k s : Nat) (y0 y1 y2 y3 y4 : Int) (i b : Nat) (hb : b < 80) : updV (kW kk) k (s * 5) (k5 y0 y1 y2 y3 y4) i b = kW (updK kk k s (kY y0 y1 y2 y3 y4)) i b := by
  obtain ⟨t, q, hq, rfl⟩ : ∃ t q, q < 5 ∧ b = t * 5 + q := ⟨b / 5, b % 5, by omega, by omega⟩
  rw [kW_q _ _ _ _ hq]
  unfold updK
  by_cases h : i = k ∧ t = s
  · obtain ⟨rfl, rfl⟩ := h
    rw [if_pos ⟨rfl, rfl⟩]
    have := updV_q (kW kk) i t y0 y1 y2 y3 y4 q hq
    obtain rfl | rfl | rfl | rfl | rfl := five q hq
    all_goals (simpa [k5, kval, kY] using this)
  · rw [if_neg h, ← kW_q kk i t q hq]
    unfold updV
    rw [if_neg]
    rintro ⟨rfl, h1, h2⟩
    have : (k5 y0 y1 y2 y3 y4).length = 5 := rfl
    exact h ⟨rfl, by omega⟩
theorem kW_zero (kk : Nat → Nat → Nat → Int) (j : Nat) (ks : Nat → Nat → Int) (i b : Nat) (hb : b < 80) : updV (kW kk) j 0 zs80 i b = kW (madeK kk j 0 ks) i b := by
  rw [← kW_fresh kk j 0 ks (by decide) i b hb]
  unfold freshV
  rw [show kcs ks 0 = [] from rfl]
  simp [updV]
theorem NdAt.congrW {w : World} {base P p B G n c : Nat} {th : Nat → Bool} {vr : Nat → Int} {W W' : Nat → Nat → Value} (h : NdAt w base P p B G n c th vr W) (hw : ∀ i, i < n → ∀ j, j < 80 → W i j = W' i j) : NdAt w base P p B G n c th vr W' :=
  ⟨h.pl, h.pb, h.f0, h.f1, h.ar, by rw [← flatV_congr hw]; exact h.row, h.n1, h.n2, h.n3, h.n4⟩
/-- Keys in memory. -/
structure KS (w : World) (a : Option Addr) (m : Nat) (ks : Nat → Nat → Int) : Prop where
  src : ∀ i, i < m → ∃ ad, a = some ad ∧ ad.block < w.heap.size ∧ ∀ q, q < 5 → w.cell? (ad.add (i * 5 + q)) = some (kval q (ks i q))
theorem KS.below {w w' : World} {a : Option Addr} {m : Nat} {ks : Nat → Nat → Int} (h : KS w a m ks) (hb : Below w.heap.size w w') : KS w' a m ks := ⟨fun i hi => by
  obtain ⟨ad, h1, h2, h5⟩ := h.src i hi
  exact ⟨ad, h1, Nat.lt_of_lt_of_le h2 hb.size, fun q hq => (hb.cell (p := ad.add (i * 5 + q)) (by rw [add_block']; exact h2)).trans (h5 q hq)⟩⟩
theorem KS.srck {w w' : World} {a : Option Addr} {m B G : Nat} {ks : Nat → Nat → Int} (h : KS w a m ks) (hb : Below w.heap.size w w') (hB : w.heap.size ≤ B) (hG : w.heap.size ≤ G) : SrcK w' a m ks B G := ⟨fun i hi => by
  obtain ⟨ad, h1, h2, h5⟩ := h.src i hi
  exact ⟨ad, h1, Nat.lt_of_lt_of_le h2 hb.size, by omega, by omega, fun q hq => (hb.cell (p := ad.add (i * 5 + q)) (by rw [add_block']; exact h2)).trans (h5 q hq)⟩⟩
theorem KS.in {w : World} {a : Option Addr} {m : Nat} {ks : Nat → Nat → Int} (h : KS w a m ks) (i : Nat) (hi : i < m) : ∃ ad, a = some ad ∧ ad.block < w.heap.size ∧ InK w (ad.add (i * 5)) (ks i 0) (ks i 1) (ks i 2) (ks i 3) (ks i 4) := by
  obtain ⟨ad, h1, h2, h5⟩ := h.src i hi
  have h50 := h5 0 (by decide)
  have h51 := h5 1 (by decide)
  have h52 := h5 2 (by decide)
  have h53 := h5 3 (by decide)
  have h54 := h5 4 (by decide)
  rw [add_more ad (i * 5) 0] at h51
  rw [add_more ad (i * 5) 1] at h52
  rw [add_more ad (i * 5) 2] at h53
  rw [add_more ad (i * 5) 3] at h54
  exact ⟨ad, h1, h2, h50, h51, h52, h53, h54⟩
/-- .. above N. -/
structure KS2 (w : World) (N : Nat) (a : Option Addr) (m : Nat) (ks : Nat → Nat → Int) : Prop where
  ks : KS w a m ks
  lo : ∀ ad, a = some ad → N ≤ ad.block
theorem KS2.mid {N : Nat} {w w' : World} {a : Option Addr} {m : Nat} {ks : Nat → Nat → Int} (h : KS2 w N a m ks) (hm : Mid N w.heap.size w w') : KS w' a m ks := ⟨fun i hi => by
  obtain ⟨ad, h1, h2, h5⟩ := h.ks.src i hi
  exact ⟨ad, h1, Nat.lt_of_lt_of_le h2 hm.size, fun q hq => (World.cell?_of_block (a := ad.add (i * 5 + q)) (by rw [add_block']; exact hm.block _ (h.lo ad h1) h2)).trans (h5 q hq)⟩⟩
theorem addr_at (b o j : Nat) : Addr.add ⟨b, o, none⟩ j = ⟨b, o + j, none⟩ := by unfold Addr.add; split <;> simp_all
theorem own_ks {w : World} {B n c : Nat} {g : Nat} {kk : Nat → Nat → Nat → Int} {k : Nat} (h : w.ownsRow B 36 5 (.slice (some ⟨g, 0, none⟩) n c) n (ndc (kW kk k))) (hn : n = 16) : KS w (some ⟨g, 0, none⟩) n (kk k) := ⟨fun i hi => ⟨_, rfl, (h.lt g rfl).2, fun q hq => by
  rw [addr_at, Nat.zero_add]
  have := h.cellAt (i * 5 + q) (by omega)
  rw [this]
  have hlt : i * 5 + q < 80 := by omega
  simp only [ndc, List.getElem?_map, List.getElem?_range hlt, Option.map_some]
  rw [kW_q _ _ _ _ hq]⟩⟩
section
variable {base P p B G n c : Nat} {th : Nat → Bool} {vr_ : Nat → Int} {W : Nat → Nat → Value} {kk : Nat → Nat → Nat → Int}
theorem nm_ok (id : Int) (vs vr : Value) (a : Option Addr) (m c2 : Nat) (ks : Nat → Nat → Int) (hx : m ≤ 16) (hk : Hid (∀ i, i < m → KRight ks i)) (j : Nat) (hid : Hid (id = j)) (hj : j < n) (hyes : Hid (freeB th vr_ j = true)) (hno : Hid (∀ i, i < j → freeB th vr_ i = false)) (v : Int) (hv : Hid (vr_ j = v)) (w : World) (hE : ErrsAt vs vr w) (h : NdAt w base P p B G n c th vr_ (kW kk)) (hs : SrcK w a m ks B G) :
    Calls Tryd.prog 50 #[.pointer (some ⟨P, 0, none⟩), .slice a m c2] w fun e w' => e = .returned (.tuple #[.int .i64 id, .int .i64 v, .nilIface]) ∧ NdAt w' base P p B G n c (upd th j true) vr_ (kW (madeK kk j m ks)) ∧ PBelow w w' B G :=
  (nmake_at id vs vr a m c2 ks hx hk j hid hj hyes hno v hv w hE h hs).mono fun e w' ⟨h1, h2, h3⟩ => ⟨h1, h2.congrW (fun i _ b hb => kW_fresh kk j m ks hx i b hb), h3⟩
theorem nm_many {P : Nat} (a : Option Addr) (m c2 : Nat) (hm : 16 < m) (z : Addr) (w : World) (hE : w.cell? ⟨2, 0, none⟩ = some (eV z)) :
    Calls Tryd.prog 50 #[.pointer (some ⟨P, 0, none⟩), .slice a m c2] w fun e w' => e = .returned (.tuple #[.int .i64 0, .int .i64 0, eV z]) ∧ Below w.heap.size w w' := by
  have HF := Lib.hid (nfits_many a m c2 hm (eV z) w hE)
  go_enter Tryd.func50, Tryd.ntmps50
  go_wp2_with (first
    | (go_at_call 107; (with_reducible refine HF.out.mono ?_); rintro e w0 ⟨rfl, hb0⟩; have HB0 := Lib.hid hb0; clear hb0))
  go_ret3
  exact ⟨rfl, HB0.out⟩
theorem nm_bad {P : Nat} (vs vr : Value) (z : Addr) (a : Option Addr) (m c2 j : Nat) (hm : m ≤ 16) (hj : j < m) (ks : Nat → Nat → Int) (hk : Hid (∀ i, i < j → KRight ks i)) (hz : Hid (kErr vs vr (ks j 0) (ks j 1) (ks j 2) (ks j 3) (ks j 4) = eV z)) (w : World) (hE : ErrsAt vs vr w) (hs : SrcK w a m ks B G) :
    Calls Tryd.prog 50 #[.pointer (some ⟨P, 0, none⟩), .slice a m c2] w fun e w' => e = .returned (.tuple #[.int .i64 0, .int .i64 0, eV z]) ∧ Below w.heap.size w w' := by
  have HF := Lib.hid (nfits_bad vs vr z a m c2 j hm hj ks hk hz w hE hs)
  go_enter Tryd.func50, Tryd.ntmps50
  go_wp2_with (first
    | (go_at_call 107; (with_reducible refine HF.out.mono ?_); rintro e w0 ⟨rfl, hb0⟩; have HB0 := Lib.hid hb0; clear hb0))
  go_ret3
  exact ⟨rfl, HB0.out⟩
theorem nm_full (vs vr : Value) (a : Option Addr) (m c2 : Nat) (ks : Nat → Nat → Int) (hx : m ≤ 16) (hk : Hid (∀ i, i < m → KRight ks i)) (hno : Hid (∀ i, i < n → freeB th vr_ i = false)) (z : Addr) (w : World) (hE : ErrsAt vs vr w) (hF : w.cell? ⟨3, 0, none⟩ = some (eV z)) (hl : 3 < w.heap.size) (h : NdAt w base P p B G n c th vr_ W) (hs : SrcK w a m ks B G) :
    Calls Tryd.prog 50 #[.pointer (some ⟨P, 0, none⟩), .slice a m c2] w fun e w' => e = .returned (.tuple #[.int .i64 0, .int .i64 0, eV z]) ∧ Below w.heap.size w w' := by
  have H := Lib.hid h
  have HS := Lib.hid hs
  have HE := Lib.hid hE
  have HF := Lib.hid (⟨hF, hl⟩ : w.cell? ⟨3, 0, none⟩ = some (eV z) ∧ 3 < w.heap.size)
  clear h hs hE hF hl
  go_enter Tryd.func50, Tryd.ntmps50
  go_wp2_with (first
    | (go_at_call 107; (with_reducible refine (nfits_ok vs vr a m c2 hx ks hk _ HE.out HS.out).mono ?_); rintro e w0 ⟨rfl, hb0⟩; have H0 := Lib.hid (H.out.below hb0); have HB0 := Lib.hid hb0; have f9 := H0.out.f0; clear hb0)
    | (go_at_call 82; (with_reducible refine (atake_full _ H0.out.ar hno _ ((HB0.out.cell (p := ⟨3, 0, none⟩) HF.out.2).trans HF.out.1) (Nat.lt_of_lt_of_le HF.out.2 HB0.out.size)).mono ?_); rintro e w1 ⟨rfl, hb⟩; have HB := Lib.hid (HB0.out.trans (hb.mono HB0.out.size)); clear hb))
  go_ret3
  exact ⟨rfl, HB.out⟩
theorem nslot_is (s : Int) (t : Bool) (ht : Hid (decide (0 ≤ s ∧ s < 16) = t)) (w : World) : Calls Tryd.prog 108 #[.int .i64 s] w fun e w' => e = .returned (.bool t) ∧ w = w' := by
  by_cases h0 : 0 ≤ s
  · by_cases h1 : s < 16
    · obtain rfl : t = true := by rw [← ht.out]; exact decide_eq_true ⟨h0, h1⟩
      have d0 := decide_eq_true h0
      have d1 := decide_eq_true h1
      go_enter Tryd.func108, Tryd.ntmps108
      go_wp2
      go_ret
      exact ⟨rfl, rfl⟩
    · obtain rfl : t = false := by rw [← ht.out]; exact decide_eq_false (by omega)
      have d0 := decide_eq_true h0
      have d1 := decide_eq_false h1
      go_enter Tryd.func108, Tryd.ntmps108
      go_wp2
      go_ret
      exact ⟨rfl, rfl⟩
  · obtain rfl : t = false := by rw [← ht.out]; exact decide_eq_false (by omega)
    have d0 := decide_eq_false h0
    go_enter Tryd.func108, Tryd.ntmps108
    go_wp2
    go_ret
    exact ⟨rfl, rfl⟩
theorem nset_none (k s : Int) (y0 y1 y2 y3 y4 : Int) (ht : Hid (thereB n th k = false)) (z : Addr) (w : World) (hE : w.cell? ⟨0, 0, none⟩ = some (eV z)) (hl : (⟨0, 0, none⟩ : Addr).block < w.heap.size) (h : NdAt w base P p B G n c th vr_ W) :
    Calls Tryd.prog 51 #[.pointer (some ⟨P, 0, none⟩), .int .i64 k, .int .i64 s, (Value.agg #[.int .i64 y0, .int .i64 y1, .int .i64 y2, .int .i64 y3, .int .u32 y4])] w fun e w' => e = .returned (eV z) ∧ Below w.heap.size w w' := by
  have H := Lib.hid (fun o => h.below ((Below.refl _ _).alloc (Nat.le_refl _) _ : Below w.heap.size w (w.alloc o))); have f0 := fun o => (h.below ((Below.refl _ _).alloc (Nat.le_refl _) _ : Below w.heap.size w (w.alloc o))).f0; have HE := Lib.hid (fun o => (((Below.refl _ _).alloc (Nat.le_refl _) _ : Below w.heap.size w (w.alloc o)).cell hl).trans hE); have e0 := fun o => (((Below.refl _ _).alloc (Nat.le_refl _) _ : Below w.heap.size w (w.alloc o)).cell hl).trans hE; clear h hE
  go_enter Tryd.func51, Tryd.ntmps51
  go_wp2_with (first
    | (go_at_call 54; (with_reducible refine (athere_is k false ht _ (H.out _).ar).mono ?_); rintro e w1 ⟨rfl, rfl⟩))
  go_ret
  exact ⟨rfl, (Below.refl _ _).alloc (Nat.le_refl _) _⟩
theorem nset_range (k s : Int) (y0 y1 y2 y3 y4 : Int) (ht : Hid (thereB n th k = true)) (hs : Hid (decide (0 ≤ s ∧ s < 16) = false)) (z : Addr) (w : World) (hE : w.cell? ⟨1, 0, none⟩ = some (eV z)) (hl : (⟨1, 0, none⟩ : Addr).block < w.heap.size) (h : NdAt w base P p B G n c th vr_ W) :
    Calls Tryd.prog 51 #[.pointer (some ⟨P, 0, none⟩), .int .i64 k, .int .i64 s, (Value.agg #[.int .i64 y0, .int .i64 y1, .int .i64 y2, .int .i64 y3, .int .u32 y4])] w fun e w' => e = .returned (eV z) ∧ Below w.heap.size w w' := by
  have H := Lib.hid (fun o => h.below ((Below.refl _ _).alloc (Nat.le_refl _) _ : Below w.heap.size w (w.alloc o))); have f0 := fun o => (h.below ((Below.refl _ _).alloc (Nat.le_refl _) _ : Below w.heap.size w (w.alloc o))).f0; have HE := Lib.hid (fun o => (((Below.refl _ _).alloc (Nat.le_refl _) _ : Below w.heap.size w (w.alloc o)).cell hl).trans hE); have e0 := fun o => (((Below.refl _ _).alloc (Nat.le_refl _) _ : Below w.heap.size w (w.alloc o)).cell hl).trans hE; clear h hE
  go_enter Tryd.func51, Tryd.ntmps51
  go_wp2_with (first
    | (go_at_call 54; (with_reducible refine (athere_is k true ht _ (H.out _).ar).mono ?_); rintro e w1 ⟨rfl, rfl⟩)
    | (go_at_call 108; (with_reducible refine (nslot_is s false hs _).mono ?_); rintro e w1 ⟨rfl, rfl⟩))
  go_ret
  exact ⟨rfl, (Below.refl _ _).alloc (Nat.le_refl _) _⟩
theorem nset_bad (k s : Int) (y0 y1 y2 y3 y4 : Int) (ht : Hid (thereB n th k = true)) (hs : Hid (decide (0 ≤ s ∧ s < 16) = true)) (vs vr : Value) (z : Addr) (hz : Hid (kErr vs vr y0 y1 y2 y3 y4 = eV z)) (w : World) (hE : ErrsAt vs vr w) (h : NdAt w base P p B G n c th vr_ W) :
    Calls Tryd.prog 51 #[.pointer (some ⟨P, 0, none⟩), .int .i64 k, .int .i64 s, (Value.agg #[.int .i64 y0, .int .i64 y1, .int .i64 y2, .int .i64 y3, .int .u32 y4])] w fun e w' => e = .returned (eV z) ∧ Below w.heap.size w w' := by
  have H := Lib.hid (fun o => h.below ((Below.refl _ _).alloc (Nat.le_refl _) _ : Below w.heap.size w (w.alloc o)))
  have f0 := fun o => (h.below ((Below.refl _ _).alloc (Nat.le_refl _) _ : Below w.heap.size w (w.alloc o))).f0
  have HE := Lib.hid (fun o => hE.below ((Below.refl _ _).alloc (Nat.le_refl _) _ : Below w.heap.size w (w.alloc o)))
  clear h hE
  go_enter Tryd.func51, Tryd.ntmps51
  go_wp2_with (first
    | (go_at_call 54; (with_reducible refine (athere_is k true ht _ (H.out _).ar).mono ?_); rintro e w1 ⟨rfl, rfl⟩)
    | (go_at_call 108; (with_reducible refine (nslot_is s true hs _).mono ?_); rintro e w1 ⟨rfl, rfl⟩)
    | (go_at_call 101; (with_reducible refine (nvalid_bad y0 y1 y2 y3 y4 vs vr z hz _ (HE.out _)).mono ?_); rintro e w1 ⟨rfl, hb⟩; have HB := Lib.hid (((Below.refl _ _).alloc (Nat.le_refl _) _ : Below w.heap.size w _).trans (hb.mono (by simp))); clear hb))
  go_ret
  exact ⟨rfl, HB.out⟩
theorem ns_ok (vs vr : Value) (k s : Nat) (hk : k < n) (hs : s < 16) (ht : Hid (th k = true)) (y0 y1 y2 y3 y4 : Int) (hy : Hid (rightB y0 y1 y2 y3 y4 = true)) (w : World) (hE : ErrsAt vs vr w) (h : NdAt w base P p B G n c th vr_ (kW kk)) :
    Calls Tryd.prog 51 #[.pointer (some ⟨P, 0, none⟩), .int .i64 k, .int .i64 s, (Value.agg #[.int .i64 y0, .int .i64 y1, .int .i64 y2, .int .i64 y3, .int .u32 y4])] w fun e w' => e = .returned .nilIface ∧ NdAt w' base P p B G n c th vr_ (kW (updK kk k s (kY y0 y1 y2 y3 y4))) ∧ PBelow w w' B G :=
  (nset_ok vs vr k s hk hs ht y0 y1 y2 y3 y4 hy w hE h (Lib.hid (fun j _ => kW_one kk k j))).mono fun e w' ⟨h1, h2, h3⟩ => ⟨h1, h2.congrW (fun i _ b hb => kW_set kk k s y0 y1 y2 y3 y4 i b hb), h3⟩
theorem nget_no (k s : Int) (ht : Hid ((thereB n th k && decide (0 ≤ s ∧ s < 16)) = false)) (w : World) (h : NdAt w base P p B G n c th vr_ W) :
    Calls Tryd.prog 53 #[.pointer (some ⟨P, 0, none⟩), .int .i64 k, .int .i64 s] w fun e w' => e = .returned (.tuple #[Value.agg #[.int .i64 0, .int .i64 0, .int .i64 0, .int .i64 0, .int .u32 0], .bool false]) ∧ Below w.heap.size w w' := by
  have H := Lib.hid (fun o => h.below ((Below.refl _ _).alloc (Nat.le_refl _) _ : Below w.heap.size w (w.alloc o)))
  have f0 := fun o => (h.below ((Below.refl _ _).alloc (Nat.le_refl _) _ : Below w.heap.size w (w.alloc o))).f0
  clear h
  by_cases h1 : thereB n th k = true
  · have H1 := Lib.hid h1
    have H2 : Hid (decide (0 ≤ s ∧ s < 16) = false) := Lib.hid (by have := ht.out; rw [h1] at this; simpa using this)
    clear h1
    go_enter Tryd.func53, Tryd.ntmps53
    go_wp2_with (first
      | (go_at_call 54; (with_reducible refine (athere_is k true H1 _ (H.out _).ar).mono ?_); rintro e w1 ⟨rfl, rfl⟩)
      | (go_at_call 108; (with_reducible refine (nslot_is s false H2 _).mono ?_); rintro e w1 ⟨rfl, rfl⟩))
    refine bodyPost_ret (v := .tuple #[Value.agg #[.int .i64 0, .int .i64 0, .int .i64 0, .int .i64 0, .int .u32 0], .bool false]) (by simp [results, Tryd.results53, go_sem]) rfl ⟨rfl, ?_⟩
    exact (Below.refl _ _).alloc (Nat.le_refl _) _
  · have H1 : Hid (thereB n th k = false) := Lib.hid (by simpa using h1)
    clear h1
    go_enter Tryd.func53, Tryd.ntmps53
    go_wp2_with (first
      | (go_at_call 54; (with_reducible refine (athere_is k false H1 _ (H.out _).ar).mono ?_); rintro e w1 ⟨rfl, rfl⟩))
    refine bodyPost_ret (v := .tuple #[Value.agg #[.int .i64 0, .int .i64 0, .int .i64 0, .int .i64 0, .int .u32 0], .bool false]) (by simp [results, Tryd.results53, go_sem]) rfl ⟨rfl, ?_⟩
    exact (Below.refl _ _).alloc (Nat.le_refl _) _
theorem nall_no (id : Int) (ht : Hid (thereB n th id = false)) (w : World) (h : NdAt w base P p B G n c th vr_ W) :
    Calls Tryd.prog 49 #[.pointer (some ⟨P, 0, none⟩), .int .i64 id] w fun e w' => e = .returned (.slice none 0 0) ∧ w = w' := by
  have H := Lib.hid h
  have f0 := h.f0
  clear h
  go_enter Tryd.func49, Tryd.ntmps49
  go_wp2_with (first | (go_at_call 54; (with_reducible refine (athere_is id false ht _ H.out.ar).mono ?_); rintro e w1 ⟨rfl, rfl⟩))
  go_ret
  exact ⟨rfl, rfl⟩
/-- How many keys All hands out. -/
def nlen (n : Nat) (th : Nat → Bool) (id : Int) : Nat := if thereB n th id = true then 16 else 0
theorem nlen_le (n : Nat) (th : Nat → Bool) (id : Int) : nlen n th id ≤ 16 := by unfold nlen; split <;> omega
theorem nall_any (id : Int) (m : Nat) (hm : Hid (nlen n th id = m)) (ks : Nat → Nat → Int) (hk : Hid (kk id.toNat = ks)) (w : World) (h : NdAt w base P p B G n c th vr_ (kW kk)) :
    Calls Tryd.prog 49 #[.pointer (some ⟨P, 0, none⟩), .int .i64 id] w fun e w' => ∃ a c', e = .returned (.slice a m c') ∧ KS2 w' w.heap.size a m ks ∧ Below w.heap.size w w' := by
  by_cases ht : thereB n th id = true
  · obtain ⟨k, rfl, hlt, hkt⟩ := there_nat ht
    have hm2 : m = 16 := by rw [← hm.out]; unfold nlen; rw [if_pos ht]
    have hk2 : kk k = ks := by rw [← hk.out]; rfl
    subst hm2 hk2
    exact (nall_is k hlt (Lib.hid hkt) w h (Lib.hid (fun j _ => kW_one kk k j))).mono fun e w' ⟨g', c', he, hr, hb⟩ => ⟨some ⟨g', 0, none⟩, c', he, ⟨own_ks hr rfl, fun ad e => by injection e with e; rw [← e]; exact (hr.lt g' rfl).1⟩, hb⟩
  · have ht' : thereB n th id = false := by simpa using ht
    have hm2 : m = 0 := by rw [← hm.out]; unfold nlen; rw [if_neg ht]
    subst hm2
    exact (nall_no id (Lib.hid ht') w h).mono fun e w' ⟨he, hw⟩ => ⟨none, 0, he, ⟨⟨fun i hi => by omega⟩, fun ad e => by cases e⟩, by rw [← hw]; exact Below.refl _ _⟩
end
end Go.Proofs.YtdcdfaeokbdalaaDoor
namespace Go.Proofs.YtdcdfaeokbdalaaDoor
open Go.ChangeShapes Go.WideShapes Go.ChangeAt Go.RowKit
set_option linter.unusedVariables false
theorem samekey_yes (y0 y1 y2 y3 y4 : Int) (w : World) : Calls Tryd.prog 26 #[(Value.agg #[.int .i64 y0, .int .i64 y1, .int .i64 y2, .int .i64 y3, .int .u32 y4]), (Value.agg #[.int .i64 y0, .int .i64 y1, .int .i64 y2, .int .i64 y3, .int .u32 y4])] w fun e w' => e = .returned (.bool true) ∧ Below w.heap.size w w' :=
  (samekey_any y0 y1 y2 y3 y4 y0 y1 y2 y3 y4 w).mono fun e w' ⟨h1, h2⟩ => ⟨by rw [h1]; simp [sameB], h2⟩
theorem bkeep {w w' : World} (h : Below w.heap.size w w') {e : Addr} {v : Value} (hv : w.cell? e = some v) : w'.cell? e = some v := (h.cell (p := e) (cell_in hv)).trans hv
theorem sk_keep {wr W W' : World} {ad bd : Addr} {k : Nat} {y0 y1 y2 y3 y4 : Int} (HSA : Hid (∀ W, Below wr.heap.size wr W → (Below wr.heap.size wr W ∧ World.cell? W (ad.add (k * 5)) = some (.int .i64 y0) ∧ World.cell? W ⟨(ad.add (k * 5)).block, (ad.add (k * 5)).off + 1, none⟩ = some (.int .i64 y1) ∧ World.cell? W ⟨(ad.add (k * 5)).block, (ad.add (k * 5)).off + 2, none⟩ = some (.int .i64 y2) ∧ World.cell? W ⟨(ad.add (k * 5)).block, (ad.add (k * 5)).off + 3, none⟩ = some (.int .i64 y3) ∧ World.cell? W ⟨(ad.add (k * 5)).block, (ad.add (k * 5)).off + 4, none⟩ = some (.int .u32 y4) ∧ World.cell? W (bd.add (k * 5)) = some (.int .i64 y0) ∧ World.cell? W ⟨(bd.add (k * 5)).block, (bd.add (k * 5)).off + 1, none⟩ = some (.int .i64 y1) ∧ World.cell? W ⟨(bd.add (k * 5)).block, (bd.add (k * 5)).off + 2, none⟩ = some (.int .i64 y2) ∧ World.cell? W ⟨(bd.add (k * 5)).block, (bd.add (k * 5)).off + 3, none⟩ = some (.int .i64 y3) ∧ World.cell? W ⟨(bd.add (k * 5)).block, (bd.add (k * 5)).off + 4, none⟩ = some (.int .u32 y4)))) (h : (Below wr.heap.size wr W ∧ World.cell? W (ad.add (k * 5)) = some (.int .i64 y0) ∧ World.cell? W ⟨(ad.add (k * 5)).block, (ad.add (k * 5)).off + 1, none⟩ = some (.int .i64 y1) ∧ World.cell? W ⟨(ad.add (k * 5)).block, (ad.add (k * 5)).off + 2, none⟩ = some (.int .i64 y2) ∧ World.cell? W ⟨(ad.add (k * 5)).block, (ad.add (k * 5)).off + 3, none⟩ = some (.int .i64 y3) ∧ World.cell? W ⟨(ad.add (k * 5)).block, (ad.add (k * 5)).off + 4, none⟩ = some (.int .u32 y4) ∧ World.cell? W (bd.add (k * 5)) = some (.int .i64 y0) ∧ World.cell? W ⟨(bd.add (k * 5)).block, (bd.add (k * 5)).off + 1, none⟩ = some (.int .i64 y1) ∧ World.cell? W ⟨(bd.add (k * 5)).block, (bd.add (k * 5)).off + 2, none⟩ = some (.int .i64 y2) ∧ World.cell? W ⟨(bd.add (k * 5)).block, (bd.add (k * 5)).off + 3, none⟩ = some (.int .i64 y3) ∧ World.cell? W ⟨(bd.add (k * 5)).block, (bd.add (k * 5)).off + 4, none⟩ = some (.int .u32 y4))) (hb : Below W.heap.size W W') : (Below wr.heap.size wr W' ∧ World.cell? W' (ad.add (k * 5)) = some (.int .i64 y0) ∧ World.cell? W' ⟨(ad.add (k * 5)).block, (ad.add (k * 5)).off + 1, none⟩ = some (.int .i64 y1) ∧ World.cell? W' ⟨(ad.add (k * 5)).block, (ad.add (k * 5)).off + 2, none⟩ = some (.int .i64 y2) ∧ World.cell? W' ⟨(ad.add (k * 5)).block, (ad.add (k * 5)).off + 3, none⟩ = some (.int .i64 y3) ∧ World.cell? W' ⟨(ad.add (k * 5)).block, (ad.add (k * 5)).off + 4, none⟩ = some (.int .u32 y4) ∧ World.cell? W' (bd.add (k * 5)) = some (.int .i64 y0) ∧ World.cell? W' ⟨(bd.add (k * 5)).block, (bd.add (k * 5)).off + 1, none⟩ = some (.int .i64 y1) ∧ World.cell? W' ⟨(bd.add (k * 5)).block, (bd.add (k * 5)).off + 2, none⟩ = some (.int .i64 y2) ∧ World.cell? W' ⟨(bd.add (k * 5)).block, (bd.add (k * 5)).off + 3, none⟩ = some (.int .i64 y3) ∧ World.cell? W' ⟨(bd.add (k * 5)).block, (bd.add (k * 5)).off + 4, none⟩ = some (.int .u32 y4)) := HSA.out _ (h.1.trans (hb.mono h.1.size))
set_option maxRecDepth 100000 in
theorem samekeys_yes (a b : Option Addr) (ca cb n : Nat) (ks : Nat → Nat → Int) (hm : n ≤ 1000000) (w : World) (hx : KS w a n ks) (hy : KS w b n ks) :
    Calls Tryd.prog 41 #[.slice a n ca, .slice b n cb] w fun e w' => e = .returned (.bool true) ∧ Below w.heap.size w w' := by
  have HX := Lib.hid hx
  have HY := Lib.hid hy
  clear hx hy
  go_enter Tryd.func41, Tryd.ntmps41
  go_wp2_with fail
  go_loopw [5] (fun i wr => ∃ k : Nat, k ≤ n ∧ i = .int .i64 k ∧ Below w.heap.size w wr) (fun i _ => n - (intOf i).toNat)
  case atStart => exact ⟨0, by omega, rfl, Below.refl _ _⟩
  case round =>
    obtain ⟨k, hk, rfl, hb⟩ := hrel
    have HB := Lib.hid hb
    by_cases hlt : k < n
    · obtain ⟨ad, rfl, h1, c0, c1, c2, c3, c4⟩ := (HX.out.below hb).in k hlt
      obtain ⟨bd, rfl, h2, d0, d1, d2, d3, d4⟩ := (HY.out.below hb).in k hlt
      generalize ks k 0 = y0 at c0 d0
      generalize ks k 1 = y1 at c1 d1
      generalize ks k 2 = y2 at c2 d2
      generalize ks k 3 = y3 at c3 d3
      generalize ks k 4 = y4 at c4 d4
      have k0 : (0 : Int) ≤ (k : Int) := by omega
      have k1 : (k : Int) < (n : Int) := by omega
      clear hb
      have HSA : Hid (∀ W, Below wr.heap.size wr W → (Below wr.heap.size wr W ∧ World.cell? W (ad.add (k * 5)) = some (.int .i64 y0) ∧ World.cell? W ⟨(ad.add (k * 5)).block, (ad.add (k * 5)).off + 1, none⟩ = some (.int .i64 y1) ∧ World.cell? W ⟨(ad.add (k * 5)).block, (ad.add (k * 5)).off + 2, none⟩ = some (.int .i64 y2) ∧ World.cell? W ⟨(ad.add (k * 5)).block, (ad.add (k * 5)).off + 3, none⟩ = some (.int .i64 y3) ∧ World.cell? W ⟨(ad.add (k * 5)).block, (ad.add (k * 5)).off + 4, none⟩ = some (.int .u32 y4) ∧ World.cell? W (bd.add (k * 5)) = some (.int .i64 y0) ∧ World.cell? W ⟨(bd.add (k * 5)).block, (bd.add (k * 5)).off + 1, none⟩ = some (.int .i64 y1) ∧ World.cell? W ⟨(bd.add (k * 5)).block, (bd.add (k * 5)).off + 2, none⟩ = some (.int .i64 y2) ∧ World.cell? W ⟨(bd.add (k * 5)).block, (bd.add (k * 5)).off + 3, none⟩ = some (.int .i64 y3) ∧ World.cell? W ⟨(bd.add (k * 5)).block, (bd.add (k * 5)).off + 4, none⟩ = some (.int .u32 y4))) := Lib.hid (fun W hW => ⟨hW, bkeep hW c0, bkeep hW c1, bkeep hW c2, bkeep hW c3, bkeep hW c4, bkeep hW d0, bkeep hW d1, bkeep hW d2, bkeep hW d3, bkeep hW d4⟩)
      clear h1 h2
      go_wp2_with fail
      go_region_held3 (fun W => (Below wr.heap.size wr W ∧ World.cell? W (ad.add (k * 5)) = some (.int .i64 y0) ∧ World.cell? W ⟨(ad.add (k * 5)).block, (ad.add (k * 5)).off + 1, none⟩ = some (.int .i64 y1) ∧ World.cell? W ⟨(ad.add (k * 5)).block, (ad.add (k * 5)).off + 2, none⟩ = some (.int .i64 y2) ∧ World.cell? W ⟨(ad.add (k * 5)).block, (ad.add (k * 5)).off + 3, none⟩ = some (.int .i64 y3) ∧ World.cell? W ⟨(ad.add (k * 5)).block, (ad.add (k * 5)).off + 4, none⟩ = some (.int .u32 y4) ∧ World.cell? W (bd.add (k * 5)) = some (.int .i64 y0) ∧ World.cell? W ⟨(bd.add (k * 5)).block, (bd.add (k * 5)).off + 1, none⟩ = some (.int .i64 y1) ∧ World.cell? W ⟨(bd.add (k * 5)).block, (bd.add (k * 5)).off + 2, none⟩ = some (.int .i64 y2) ∧ World.cell? W ⟨(bd.add (k * 5)).block, (bd.add (k * 5)).off + 3, none⟩ = some (.int .i64 y3) ∧ World.cell? W ⟨(bd.add (k * 5)).block, (bd.add (k * 5)).off + 4, none⟩ = some (.int .u32 y4))) (first | exact HSA.out _ (Below.refl _ _).drew | exact sk_keep HSA (by assumption) hb) (first | (go_at_call 26; (with_reducible refine (samekey_yes y0 y1 y2 y3 y4 _).mono ?_); rintro e w' ⟨rfl, hb⟩))
      have HE := Lib.hid (And.left (show _ ∧ _ by assumption) : Below wr.heap.size wr _)
      go_wp2
      go_roundw
      case rel => exact ⟨k + 1, by omega, by go_num, HB.out.trans (HE.out.mono HB.out.size)⟩
      case measure => simp [intOf]; omega
    · obtain rfl : n = k := by omega
      have hdd : decide (n < n) = false := by simp
      clear hb
      go_wp2_with fail
      go_ret
      exact ⟨rfl, HB.out⟩
/-- A copy of nodes: as nodes, but its row may have room to spare. -/
structure NcAt (w : World) (base P p B G n c q : Nat) (th : Nat → Bool) (vr : Nat → Int) (W : Nat → Nat → Value) : Prop where
  pl : P < w.heap.size
  pb : base ≤ P
  f0 : w.cell? ⟨P, 0, none⟩ = some (.pointer (some ⟨p, 0, none⟩))
  f1 : w.cell? ⟨P, 1, none⟩ = some (.slice (some ⟨G, 0, none⟩) n q)
  ar : ArAt w base p B n c th vr
  row : w.ownsRow base 37 80 (.slice (some ⟨G, 0, none⟩) n q) n (flatV W n)
theorem NcAt.mid {N base P p B G n c q : Nat} {w w' : World} {th : Nat → Bool} {vr : Nat → Int} {W : Nat → Nat → Value} (h : NcAt w base P p B G n c q th vr W) (hN : N ≤ base) (hm : Mid N w.heap.size w w') : NcAt w' base P p B G n c q th vr W := by
  have hP := hm.block P (Nat.le_trans hN h.pb) h.pl
  have hp := hm.block p (Nat.le_trans hN h.ar.pb) h.ar.pl
  exact ⟨Nat.lt_of_lt_of_le h.pl hm.size, h.pb, (World.cell?_of_block (a := ⟨P, 0, none⟩) hP).trans h.f0, (World.cell?_of_block (a := ⟨P, 1, none⟩) hP).trans h.f1,
    ⟨Nat.lt_of_lt_of_le h.ar.pl hm.size, h.ar.pb, (World.cell?_of_block (a := ⟨p, 0, none⟩) hp).trans h.ar.fld, row_mid h.ar.own hN hm, h.ar.ne, h.ar.le⟩, row_mid h.row hN hm⟩
set_option maxRecDepth 100000 in
theorem vclone_is (w : World) {base G n q : Nat} {kk : Nat → Nat → Nat → Int} (hn0 : 1 ≤ n) (hn : n ≤ 256) (h : w.ownsRow base 37 80 (.slice (some ⟨G, 0, none⟩) n q) n (flatV (kW kk) n)) :
    Calls Tryd.prog 106 #[.slice (some ⟨G, 0, none⟩) n q] w fun e w' => ∃ g' c', e = .returned (.slice (some ⟨g', 0, none⟩) n c') ∧ w'.ownsRow w.heap.size 37 80 (.slice (some ⟨g', 0, none⟩) n c') n (flatV (kW kk) n) ∧ Below w.heap.size w w' := by
  obtain ⟨i0, hi, hz0, hz1, hz2⟩ := info_parts infoSlots
  have HI := Lib.hid (⟨hi, hz0, hz1, hz2⟩ : Tryd.prog.info? 37 = some i0 ∧ i0.zero = some (.agg zs80.toArray) ∧ i0.size = 80 ∧ i0.bytes = 640)
  have H := Lib.hid h
  clear hi hz0 hz1 hz2 h
  have hq := fun W : World => Lib.run_eql_slice_nil W 53 37 (some ⟨G, 0, none⟩) n q 0 0 Tryd.underlying53
  go_enter Tryd.func106, Tryd.ntmps106
  have HOwn : Hid ((w.alloc (.cells #[] 37)).ownsRow w.heap.size 37 80 (.slice (some ⟨w.heap.size, 0, none⟩) 0 0) 0 []) := Lib.hid ⟨rfl, .inr ⟨w.heap.size, 0, #[], rfl, Nat.le_refl _, heap_alloc_new _ _, by decide, by decide, by rfl, by rfl⟩⟩
  have H1 := Lib.hid (H.out.alloc (.cells #[] 37))
  go_wp2_with (first | (at_builtin; refine wpList_append_own _ rfl _ _ 53 rfl w.heap.size 37 i0 (.agg zs80.toArray) 80 640 Tryd.underlying53 HI.out.1 HI.out.2.1 HI.out.2.2.1 HI.out.2.2.2 (by kernel_rfl) (by decide) _ _ _ rfl HOwn.out ⟨G, 0, none⟩ n q (flatV (kW kk) n) rfl ?c0 ?c1 ?c2 ?c3 ?c4 ?c5 ?_))
  case c0 => exact flatV_len (kW kk) n
  case c1 => exact H1.out.cells rfl
  case c2 => exact flatV_one' (kW_one kk) n
  case c3 => unfold maxLen; omega
  case c4 => omega
  case c5 => simp
  intro v' w1 hown hgrow hne
  have HO := Lib.hid hown
  have HB : Hid (Below w.heap.size w w1) := Lib.hid (((Below.refl _ _).alloc (Nat.le_refl _) _ : Below w.heap.size w (w.alloc (.cells #[] 37))).grown hgrow (by simp) (fun k hk => by simp [Value.ownBlock] at hk; omega))
  clear hown hgrow hne
  go_wp2_with fail
  go_ret
  rcases HO.out.2 with ⟨hv, h1⟩ | ⟨g', c', cur, rfl, _⟩
  · omega
  · exact ⟨g', c', rfl, by simpa using HO.out, HB.out⟩
section
variable {w X Y : World} {base P p B G n c : Nat} {th : Nat → Bool} {vr : Nat → Int} {W : Nat → Nat → Value}
theorem nck0 (h : NdAt w base P p B G n c th vr W) : ((NdAt w.drew base P p B G n c th vr W ∧ Below w.heap.size w w.drew) ∧ World.cell? w.drew ⟨P, 0, none⟩ = some (.pointer (some ⟨p, 0, none⟩)) ∧ World.cell? w.drew ⟨P, 1, none⟩ = some (.slice (some ⟨G, 0, none⟩) n n)) := by
  have hb : Below w.heap.size w w.drew := (Below.refl _ _).drew
  have h2 := h.below hb
  exact ⟨⟨h2, hb⟩, h2.f0, h2.f1⟩
theorem nckeep (h : ((NdAt X base P p B G n c th vr W ∧ Below w.heap.size w X) ∧ World.cell? X ⟨P, 0, none⟩ = some (.pointer (some ⟨p, 0, none⟩)) ∧ World.cell? X ⟨P, 1, none⟩ = some (.slice (some ⟨G, 0, none⟩) n n))) (hb : Below X.heap.size X Y) : ((NdAt Y base P p B G n c th vr W ∧ Below w.heap.size w Y) ∧ World.cell? Y ⟨P, 0, none⟩ = some (.pointer (some ⟨p, 0, none⟩)) ∧ World.cell? Y ⟨P, 1, none⟩ = some (.slice (some ⟨G, 0, none⟩) n n)) := by
  have h2 := h.1.1.below hb
  exact ⟨⟨h2, h.1.2.trans (hb.mono h.1.2.size)⟩, h2.f0, h2.f1⟩
theorem nck_ar (h : ((NdAt X base P p B G n c th vr W ∧ Below w.heap.size w X) ∧ World.cell? X ⟨P, 0, none⟩ = some (.pointer (some ⟨p, 0, none⟩)) ∧ World.cell? X ⟨P, 1, none⟩ = some (.slice (some ⟨G, 0, none⟩) n n))) : ArAt X base p B n c th vr := h.1.1.ar
theorem nck_row (h : ((NdAt X base P p B G n c th vr W ∧ Below w.heap.size w X) ∧ World.cell? X ⟨P, 0, none⟩ = some (.pointer (some ⟨p, 0, none⟩)) ∧ World.cell? X ⟨P, 1, none⟩ = some (.slice (some ⟨G, 0, none⟩) n n))) : X.ownsRow base 37 80 (.slice (some ⟨G, 0, none⟩) n n) n (flatV W n) := h.1.1.row
theorem nck_bel (h : ((NdAt X base P p B G n c th vr W ∧ Below w.heap.size w X) ∧ World.cell? X ⟨P, 0, none⟩ = some (.pointer (some ⟨p, 0, none⟩)) ∧ World.cell? X ⟨P, 1, none⟩ = some (.slice (some ⟨G, 0, none⟩) n n))) : Below w.heap.size w X := h.1.2
end
set_option maxRecDepth 100000 in
theorem nclone_is {base P p B G n c : Nat} {th : Nat → Bool} {vr_ : Nat → Int} {kk : Nat → Nat → Nat → Int} (hn0 : 1 ≤ n) (w : World) (h : NdAt w base P p B G n c th vr_ (kW kk)) :
    Calls Tryd.prog 48 #[.pointer (some ⟨P, 0, none⟩)] w fun e w' => ∃ P' p' B' G' c' q', e = .returned (.pointer (some ⟨P', 0, none⟩)) ∧ NcAt w' w.heap.size P' p' B' G' n c' q' th vr_ (kW kk) ∧ Below w.heap.size w w' := by
  have H := Lib.hid h
  have hn := h.ar.le
  have hP := h.pl
  clear h
  go_enter Tryd.func48, Tryd.ntmps48
  go_wp2_with fail
  obtain ⟨W, HW⟩ : ∃ W, Hid (kW kk = W) := ⟨_, Lib.hid rfl⟩
  rw [HW.out] at H
  go_region_held3 (fun w' => (NdAt w' base P p B G n c th vr_ W ∧ Below w.heap.size w w') ∧ World.cell? w' ⟨P, 0, none⟩ = some (.pointer (some ⟨p, 0, none⟩)) ∧ World.cell? w' ⟨P, 1, none⟩ = some (.slice (some ⟨G, 0, none⟩) n n)) (first | exact nck0 H.out | exact nckeep (by assumption) hb | exact nckeep (by assumption) ((Below.refl _ _).alloc (Nat.le_refl _) _) | assumption) (first
    | (go_at_call 80; (with_reducible refine (acopy_is hn0 _ (nck_ar (by assumption))).mono ?_); rintro e w1 ⟨p', B', c', rfl, hA, hb⟩; have HA := Lib.hid hA; have HS1 := Lib.hid hb.size; clear hA)
    | (go_at_call 106; (with_reducible refine (vclone_is (kk := kk) _ hn0 hn (by rw [HW.out]; exact (nck_row (by assumption)))).mono ?_); rintro e w2 ⟨g', q', rfl, hr, hb⟩; have HR := Lib.hid hr; have HA2 := Lib.hid (HA.out.below hb); clear hr))
  have hB := nck_bel (by assumption)
  go_wp2_with fail
  go_ret
  have hs : w.heap.size ≤ w1.heap.size := by simpa using HS1.out
  have hs2 := hb.size
  exact ⟨_, p', B', g', c', q', rfl, ⟨by simp, by omega, by simp, by simp, HA2.out.below ((Below.refl _ _).alloc (Nat.le_refl _) _), (base_up HR.out hs).alloc _⟩, hB⟩
section
variable {base P p B G n c q : Nat} {th : Nat → Bool} {vr_ : Nat → Int} {kk : Nat → Nat → Nat → Int}
theorem NcAt.cell {W : Nat → Nat → Value} {w : World} (h : NcAt w base P p B G n c q th vr_ W) (i j : Nat) (hi : i < n) (hj : j < 80) : w.cell? ⟨G, i * 80 + j, none⟩ = some (W i j) := by
  rw [h.row.cellAt (i * 80 + j) (by omega), flatV_at W n i j hi hj]
theorem ncall_is (k : Nat) (hk : k < n) (ht : Hid (th k = true)) (w : World) (h : NcAt w base P p B G n c q th vr_ (kW kk)) :
    Calls Tryd.prog 49 #[.pointer (some ⟨P, 0, none⟩), .int .i64 k] w fun e w' => ∃ g' c', e = .returned (.slice (some ⟨g', 0, none⟩) 16 c') ∧ w'.ownsRow w.heap.size 36 5 (.slice (some ⟨g', 0, none⟩) 16 c') 16 (ndc (kW kk k)) ∧ Below w.heap.size w w' := by
  have H := Lib.hid h
  have f0 := h.f0
  have f1 := h.f1
  have k0 : (0 : Int) ≤ k := by omega
  have k1 : (k : Int) < n := by omega
  have HC : Hid (∀ u ∈ ndc (kW kk k), u.oneCell' = true) := Lib.hid (fun u hu => by
    obtain ⟨x, hx, rfl⟩ := List.mem_map.1 hu
    exact kW_one kk k x)
  have HX : Hid (∀ j u, (ndc (kW kk k))[j]? = some u → w.cell? (Addr.add ⟨G, k * 80, none⟩ j) = some u) := Lib.hid (fun j u hj => by
    have hlt : j < 80 := by
      rcases Nat.lt_or_ge j 80 with h' | h'
      · exact h'
      · rw [List.getElem?_eq_none (by rw [ndc_len]; omega)] at hj; cases hj
    rw [addr_at, H.out.cell k j hk hlt]
    simpa [ndc, hlt] using hj)
  clear h
  go_enter Tryd.func49, Tryd.ntmps49
  go_wp2_with (first
    | (go_at_call 54; (with_reducible refine (athere_in k hk true ht _ H.out.ar).mono ?_); rintro e w1 ⟨rfl, rfl⟩)
    | (go_at_call 104; (with_reducible refine (kclone_is G (k * 80) 16 16 (ndc (kW kk k)) (Lib.hid (ndc_len _)) (by decide) (by decide) _ HX.out HC (H.out.row.lt G rfl).2).mono ?_); rintro e w2 ⟨g', c', rfl, hr, hb⟩; have HR := Lib.hid hr; have HB := Lib.hid hb; clear hr hb))
  go_ret
  exact ⟨g', c', rfl, HR.out, HB.out⟩
theorem ncall_no (id : Int) (ht : Hid (thereB n th id = false)) {W : Nat → Nat → Value} (w : World) (h : NcAt w base P p B G n c q th vr_ W) :
    Calls Tryd.prog 49 #[.pointer (some ⟨P, 0, none⟩), .int .i64 id] w fun e w' => e = .returned (.slice none 0 0) ∧ w = w' := by
  have H := Lib.hid h
  have f0 := h.f0
  clear h
  go_enter Tryd.func49, Tryd.ntmps49
  go_wp2_with (first | (go_at_call 54; (with_reducible refine (athere_is id false ht _ H.out.ar).mono ?_); rintro e w1 ⟨rfl, rfl⟩))
  go_ret
  exact ⟨rfl, rfl⟩
theorem ncall_any (id : Int) (m : Nat) (hm : Hid (nlen n th id = m)) (ks : Nat → Nat → Int) (hk : Hid (kk id.toNat = ks)) (w : World) (h : NcAt w base P p B G n c q th vr_ (kW kk)) :
    Calls Tryd.prog 49 #[.pointer (some ⟨P, 0, none⟩), .int .i64 id] w fun e w' => ∃ a c', e = .returned (.slice a m c') ∧ KS2 w' w.heap.size a m ks ∧ Below w.heap.size w w' := by
  by_cases ht : thereB n th id = true
  · obtain ⟨k, rfl, hlt, hkt⟩ := there_nat ht
    have hm2 : m = 16 := by rw [← hm.out]; unfold nlen; rw [if_pos ht]
    have hk2 : kk k = ks := by rw [← hk.out]; rfl
    subst hm2 hk2
    exact (ncall_is k hlt (Lib.hid hkt) w h).mono fun e w' ⟨g', c', he, hr, hb⟩ => ⟨some ⟨g', 0, none⟩, c', he, ⟨own_ks hr rfl, fun ad e => by injection e with e; rw [← e]; exact (hr.lt g' rfl).1⟩, hb⟩
  · have ht' : thereB n th id = false := by simpa using ht
    have hm2 : m = 0 := by rw [← hm.out]; unfold nlen; rw [if_neg ht]
    subst hm2
    exact (ncall_no id (Lib.hid ht') w h).mono fun e w' ⟨he, hw⟩ => ⟨none, 0, he, ⟨⟨fun i hi => by omega⟩, fun ad e => by cases e⟩, by rw [← hw]; exact Below.refl _ _⟩
end
/-- One thing that nodes are told. -/
structure NDo (w : World) (ad : Addr) (kd id sl y0 y1 y2 y3 y4 : Int) (a : Option Addr) (m c : Nat) (ks : Nat → Nat → Int) : Prop where
  c0 : w.cell? ad = some (.int .i64 kd)
  c1 : w.cell? ⟨ad.block, ad.off + 1, none⟩ = some (.int .i64 id)
  c2 : w.cell? ⟨ad.block, ad.off + 2, none⟩ = some (.int .i64 sl)
  c3 : w.cell? ⟨ad.block, ad.off + 3, none⟩ = some (.int .i64 y0)
  c4 : w.cell? ⟨ad.block, ad.off + 4, none⟩ = some (.int .i64 y1)
  c5 : w.cell? ⟨ad.block, ad.off + 5, none⟩ = some (.int .i64 y2)
  c6 : w.cell? ⟨ad.block, ad.off + 6, none⟩ = some (.int .i64 y3)
  c7 : w.cell? ⟨ad.block, ad.off + 7, none⟩ = some (.int .u32 y4)
  c8 : w.cell? ⟨ad.block, ad.off + 8, none⟩ = some (.slice a m c)
  rk : KS w a m ks
  g4 : y4 ≤ 4294967295
  gk : ∀ i, i < m → ks i 4 ≤ 4294967295
  mm : m ≤ 9223372036854775807
theorem NDo.below {w w' : World} {ad : Addr} {kd id sl y0 y1 y2 y3 y4 : Int} {a : Option Addr} {m c : Nat} {ks : Nat → Nat → Int} (h : NDo w ad kd id sl y0 y1 y2 y3 y4 a m c ks) (hb : Below w.heap.size w w') : NDo w' ad kd id sl y0 y1 y2 y3 y4 a m c ks := by
  have hl : ad.block < w.heap.size := cell_in h.c0
  have up : ∀ o (v : Value), w.cell? ⟨ad.block, o, none⟩ = some v → w'.cell? ⟨ad.block, o, none⟩ = some v := fun o v hv => (hb.cell (p := ⟨ad.block, o, none⟩) hl).trans hv
  exact ⟨(hb.cell (p := ad) hl).trans h.c0, up _ _ h.c1, up _ _ h.c2, up _ _ h.c3, up _ _ h.c4, up _ _ h.c5, up _ _ h.c6, up _ _ h.c7, up _ _ h.c8, h.rk.below hb, h.g4, h.gk, h.mm⟩
theorem fitU32 {a : Int} (h : (Lit.int .u32 a).wf = true) : 0 ≤ a ∧ a ≤ 4294967295 := by simpa [Lit.wf, IntKind.min, IntKind.max, IntKind.signed, IntKind.bits] using h
theorem rows_ks {w : World} {a : Option Addr} {n cap : Nat} {zs : List (List Int)} (h : IsRows [.i64, .i64, .i64, .i64, .u32] w a n cap zs) : KS w a n (fun i q => (zs.getD i []).getD q 0) ∧ (∀ i, i < n → (zs.getD i []).getD 4 0 ≤ 4294967295) ∧ n ≤ 9223372036854775807 := by
  rcases h with ⟨_, h0, _⟩ | ⟨x, rfl, hl, hm, hz, hc⟩
  · exact ⟨⟨fun i hi => by omega⟩, fun i hi => by omega, by omega⟩
  · have e5 : [IntKind.i64, IntKind.i64, IntKind.i64, IntKind.i64, IntKind.u32].length = 5 := rfl
    refine ⟨⟨fun i hi => ?_⟩, fun i hi => (fitU32 (hc i (by omega) 4 .u32 rfl).2).2, by unfold maxLen at hm; omega⟩
    have hi' : i < zs.length := by omega
    refine ⟨x, rfl, ?_, fun q hq => ?_⟩
    · have := (hc i hi' 0 .i64 rfl).1
      have := cell_in this
      rwa [add_block'] at this
    · obtain rfl | rfl | rfl | rfl | rfl := five q hq
      · have := (hc i hi' 0 .i64 rfl).1
        rwa [e5] at this
      · have := (hc i hi' 1 .i64 rfl).1
        rwa [e5] at this
      · have := (hc i hi' 2 .i64 rfl).1
        rwa [e5] at this
      · have := (hc i hi' 3 .i64 rfl).1
        rwa [e5] at this
      · have := (hc i hi' 4 .u32 rfl).1
        rwa [e5] at this
theorem reads_in {w : World} {cs : List Value} {T : TypeId} {fs : Array Field} (hT : Tryd.prog.underlying T = some (.struct fs)) (h : Reads Tryd.prog w T cs) (i : Nat) (f : Field) (hf : fs[i]? = some f) : Reads Tryd.prog w f.type ((cs.drop f.offset).take (Tryd.prog.cellsOf f.type)) := (h.struct hT).2 i f hf
set_option maxRecDepth 100000 in
theorem ndo_at {w : World} {a0 : Option Addr} {len cap : Nat} (h : Reads Tryd.prog w 105 [.slice a0 len cap]) (i : Nat) (hi : i < len) : ∃ y kd id sl y0 y1 y2 y3 y4 a m c ks, a0 = some y ∧ NDo w (y.add (i * 9)) kd id sl y0 y1 y2 y3 y4 a m c ks := by
  rcases h.slice Tryd.underlying105 with ⟨_, h0, _⟩ | ⟨y, rfl, hl, hm, hall⟩
  · omega
  · obtain ⟨cs, hcl, hat, hr⟩ := hall i (by omega)
    have e3 : Tryd.prog.cellsOf 112 = 9 := by kernel_rfl
    have eK : Tryd.prog.cellsOf 36 = 5 := by kernel_rfl
    rw [e3] at hcl hat
    obtain ⟨v0, g0, r0⟩ := hr.cell Tryd.underlying112 0 _ rfl (by kernel_rfl) (by rw [e3]; decide)
    obtain ⟨v1, g1, r1⟩ := hr.cell Tryd.underlying112 1 _ rfl (by kernel_rfl) (by rw [e3]; decide)
    obtain ⟨v2, g2, r2⟩ := hr.cell Tryd.underlying112 2 _ rfl (by kernel_rfl) (by rw [e3]; decide)
    obtain ⟨v8, g8, r8⟩ := hr.cell Tryd.underlying112 4 _ rfl (by kernel_rfl) (by rw [e3]; decide)
    have hk0 := reads_in Tryd.underlying112 hr 3 _ rfl
    have hk : Reads Tryd.prog w 36 ((cs.drop 3).take (Tryd.prog.cellsOf 36)) := hk0
    rw [eK] at hk
    obtain ⟨u0, k0, s0⟩ := hk.cell Tryd.underlying36 0 _ rfl (by kernel_rfl) (by rw [eK]; decide)
    obtain ⟨u1, k1, s1⟩ := hk.cell Tryd.underlying36 1 _ rfl (by kernel_rfl) (by rw [eK]; decide)
    obtain ⟨u2, k2, s2⟩ := hk.cell Tryd.underlying36 2 _ rfl (by kernel_rfl) (by rw [eK]; decide)
    obtain ⟨u3, k3, s3⟩ := hk.cell Tryd.underlying36 3 _ rfl (by kernel_rfl) (by rw [eK]; decide)
    obtain ⟨u4, k4, s4⟩ := hk.cell Tryd.underlying36 4 _ rfl (by kernel_rfl) (by rw [eK]; decide)
    obtain ⟨kd, e0, _⟩ := r0.int Tryd.underlying3
    obtain ⟨id, e1, _⟩ := r1.int Tryd.underlying3
    obtain ⟨sl, e2, _⟩ := r2.int Tryd.underlying3
    obtain ⟨y0, f0, _⟩ := s0.int Tryd.underlying3
    obtain ⟨y1, f1, _⟩ := s1.int Tryd.underlying3
    obtain ⟨y2, f2, _⟩ := s2.int Tryd.underlying3
    obtain ⟨y3, f3, _⟩ := s3.int Tryd.underlying3
    obtain ⟨y4, f4, hw4⟩ := s4.int Tryd.underlying23
    obtain ⟨a, m, c, rfl⟩ := r8.slice' Tryd.underlying96
    obtain ⟨zs, hz⟩ := r8.rows (ks := [.i64, .i64, .i64, .i64, .u32]) Tryd.underlying96 Tryd.underlying36 (by kernel_rfl) (by kernel_rfl) (by kernel_rfl) (by
      intro j f hf
      obtain rfl | rfl | rfl | rfl | rfl | hj : j = 0 ∨ j = 1 ∨ j = 2 ∨ j = 3 ∨ j = 4 ∨ 5 ≤ j := by omega
      · exact ⟨.i64, rfl, by injection hf with hf; subst hf; exact Tryd.underlying3⟩
      · exact ⟨.i64, rfl, by injection hf with hf; subst hf; exact Tryd.underlying3⟩
      · exact ⟨.i64, rfl, by injection hf with hf; subst hf; exact Tryd.underlying3⟩
      · exact ⟨.i64, rfl, by injection hf with hf; subst hf; exact Tryd.underlying3⟩
      · exact ⟨.u32, rfl, by injection hf with hf; subst hf; exact Tryd.underlying23⟩
      · rw [Array.getElem?_eq_none (by simpa using hj)] at hf
        cases hf)
    obtain ⟨z1, z2, z3⟩ := rows_ks hz
    simp only [List.cons.injEq, and_true] at e0 e1 e2 f0 f1 f2 f3 f4
    subst e0 e1 e2 f0 f1 f2 f3 f4
    have key : ∀ j u, j < 5 → ((cs.drop 3).take 5)[j]? = some u → cs[3 + j]? = some u := fun j u hj hu => by
      rw [List.getElem?_take, if_pos hj, List.getElem?_drop] at hu
      exact hu
    have b0 := hat 0 _ g0
    have b1 := hat 1 _ g1
    have b2 := hat 2 _ g2
    have b3 := hat 3 _ (key 0 _ (by decide) k0)
    have b4 := hat 4 _ (key 1 _ (by decide) k1)
    have b5 := hat 5 _ (key 2 _ (by decide) k2)
    have b6 := hat 6 _ (key 3 _ (by decide) k3)
    have b7 := hat 7 _ (key 4 _ (by decide) k4)
    have b8 := hat 8 _ g8
    rw [Nat.add_zero] at b0
    rw [add_more' y (i * 9) 0] at b1
    rw [add_more' y (i * 9) 1] at b2
    rw [add_more' y (i * 9) 2] at b3
    rw [add_more' y (i * 9) 3] at b4
    rw [add_more' y (i * 9) 4] at b5
    rw [add_more' y (i * 9) 5] at b6
    rw [add_more' y (i * 9) 6] at b7
    rw [add_more' y (i * 9) 7] at b8
    exact ⟨y, kd, id, sl, y0, y1, y2, y3, y4, a, m, c, _, rfl, b0, b1, b2, b3, b4, b5, b6, b7, b8, z1, (fitU32 hw4).2, z2, z3⟩
end Go.Proofs.YtdcdfaeokbdalaaDoor
namespace Go.Proofs.YtdcdfaeokbdalaaDoor
open Go.ChangeShapes Go.WideShapes Go.ChangeAt Go.RowKit
set_option linter.unusedVariables false
theorem many_places (k : Int) : manyOf k = if placesOf k = 0 then 1 else placesOf k := by
  unfold manyOf placesOf
  repeat' split
  all_goals first | rfl | omega | (exfalso; simp_all)
theorem hid_many (k : Int) : hidOf k = manyOf k - 1 := by
  unfold hidOf
  rw [many_places]
  have := placesOf_ge k
  split <;> split <;> omega
theorem hver_most (k : Int) : hverOf k = mostOf k := by
  unfold hverOf mostOf
  rw [many_places]
  have := placesOf_ge k
  have p1 : placesOf k ≠ 1 := by unfold placesOf; repeat' split
                                 all_goals omega
  by_cases h : placesOf k = 0
  · rw [if_pos h, if_neg (by omega), if_neg (by omega)]
  · rw [if_neg h, if_pos (by omega), if_pos (by omega)]
theorem hr_rights (k : Int) : hrOf k = rightsOf k := by
  unfold hrOf rightsOf
  by_cases h : k = 2 ∨ k = 3
  · rw [if_pos h, if_pos (by simpa using h)]
  · rw [if_neg h, if_neg (by simpa using h)]
theorem data_most (k : Int) : dataMost k = dataOf k := by
  unfold dataMost dataOf
  repeat' split
  all_goals first | rfl | omega
theorem right_in (k0 k1 k2 k3 k4 : Int) : rightB k0 k1 k2 k3 k4 = decide ((0 ≤ k0 ∧ k0 ≤ 14) ∧ InB k0 k1 k2 k3 k4) := by
  unfold rightB InB
  rw [hid_many, hver_most, hr_rights, data_most]
  rw [Bool.eq_iff_iff]
  simp only [wB, Bool.and_eq_true, decide_eq_true_eq]
  omega
theorem code_right {k0 k1 k2 k3 k4 : Int} (h : rightB k0 k1 k2 k3 k4 = true) : codeOf k0 k1 k2 k3 k4 = 0 := by
  rw [right_in, decide_eq_true_iff] at h
  exact codeOf_0 _ _ _ _ _ (by omega) h.2
theorem right_of_code {k0 k1 k2 k3 k4 : Int} (h : codeOf k0 k1 k2 k3 k4 = 0) : rightB k0 k1 k2 k3 k4 = true := by
  rw [right_in, decide_eq_true_iff]
  unfold codeOf at h
  split at h
  · omega
  · split at h
    · exact ⟨by omega, by assumption⟩
    · omega
theorem code_not {k0 k1 k2 k3 k4 : Int} (h : ¬ codeOf k0 k1 k2 k3 k4 = 0) : codeOf k0 k1 k2 k3 k4 = 102 ∨ codeOf k0 k1 k2 k3 k4 = 103 := by
  unfold codeOf at h ⊢
  split at h <;> split <;> first | omega | (split at h <;> split <;> omega) | (left; rfl) | skip
  all_goals (first | omega | (split at h <;> first | omega | (split <;> omega)))
end Go.Proofs.YtdcdfaeokbdalaaDoor
namespace Go.Proofs.YtdcdfaeokbdalaaDoor
open Go.ChangeShapes Go.WideShapes Go.ChangeAt Go.RowKit
set_option linter.unusedVariables false
/-- What the program says of a key, by its code. -/
theorem kerr_code (z1 z2 : Value) (y0 y1 y2 y3 y4 : Int) : (codeOf y0 y1 y2 y3 y4 = 102 → kErr z1 z2 y0 y1 y2 y3 y4 = z1) ∧ (codeOf y0 y1 y2 y3 y4 = 103 → kErr z1 z2 y0 y1 y2 y3 y4 = z2) := by
  have hr : ¬ codeOf y0 y1 y2 y3 y4 = 0 → ¬ rightB y0 y1 y2 y3 y4 = true := fun h h2 => h (code_right h2)
  constructor
  · intro h
    unfold kErr
    rw [if_neg (hr (by omega))]
    have hk : y0 < 0 ∨ 14 < y0 := by
      by_cases hk : y0 < 0 ∨ 14 < y0
      · exact hk
      · by_cases hi : InB y0 y1 y2 y3 y4
        · rw [codeOf_0 _ _ _ _ _ hk hi] at h; omega
        · rw [codeOf_103 _ _ _ _ _ hk hi] at h; omega
    have : wB y0 14 = false := by unfold wB; exact decide_eq_false (by omega)
    rw [this]; rfl
  · intro h
    unfold kErr
    rw [if_neg (hr (by omega))]
    have hk : ¬ (y0 < 0 ∨ 14 < y0) := fun hk => by rw [codeOf_102 _ _ _ _ _ hk] at h; omega
    have : wB y0 14 = true := by unfold wB; exact decide_eq_true (by omega)
    rw [this]; rfl
def cK (ks : Nat → Nat → Int) (i : Nat) : Int := codeOf (ks i 0) (ks i 1) (ks i 2) (ks i 3) (ks i 4)
/-- The code that is told when the last t of m keys are looked at, from the end on. -/
def badF (b0 : Int) (ks : Nat → Nat → Int) (m : Nat) : Nat → Int
  | 0 => b0
  | t + 1 => if cK ks (m - (t + 1)) = 0 then badF b0 ks m t else cK ks (m - (t + 1))
theorem badF_all (b0 : Int) (ks : Nat → Nat → Int) (m : Nat) (h : ∀ i, i < m → cK ks i = 0) : ∀ t, t ≤ m → badF b0 ks m t = b0 := by
  intro t
  induction t with
  | zero => intro _; rfl
  | succ t ih =>
    intro ht
    unfold badF
    rw [if_pos (h _ (by omega)), ih (by omega)]
theorem badF_first (b0 : Int) (ks : Nat → Nat → Int) (m j : Nat) (hj : j < m) (hb : ¬ cK ks j = 0) (h : ∀ i, i < j → cK ks i = 0) : ∀ t, t ≤ m → m - j ≤ t → badF b0 ks m t = cK ks j := by
  intro t
  induction t with
  | zero => intro _ h0; omega
  | succ t ih =>
    intro ht h2
    unfold badF
    by_cases e : m - (t + 1) = j
    · rw [e, if_neg hb]
    · rw [if_pos (h _ (by omega)), ih (by omega) (by omega)]
/-- What goes amiss: too many keys, one that may not be, no node left. -/
def MErr (n : Nat) (th : Nat → Bool) (vr : Nat → Int) (ks : Nat → Nat → Int) (m e : Nat) : Prop :=
  (16 < m ∧ e = 3) ∨ (m ≤ 16 ∧ ∃ j, j < m ∧ (∀ i, i < j → KRight ks i) ∧ cK ks j = 101 + (e : Int) ∧ (e = 1 ∨ e = 2)) ∨ (m ≤ 16 ∧ (∀ i, i < m → KRight ks i) ∧ (∀ i, i < n → freeB th vr i = false) ∧ e = 5)
theorem right_cK {ks : Nat → Nat → Int} {i : Nat} (h : cK ks i = 0) : KRight ks i := right_of_code h
theorem make_out (n : Nat) (th : Nat → Bool) (vr : Nat → Int) (ks : Nat → Nat → Int) (m : Nat) (b0 bk bf : Int) (full : Bool) (hf : full = true → ∀ i, i < n → freeB th vr i = false) (hb0 : b0 = if full = true then 106 else 0) (hbk : bk = badF b0 ks m m) (hbf : bf = if 16 < m then 104 else bk) :
    (∃ e, e < 12 ∧ MErr n th vr ks m e ∧ bf = 101 + (e : Int)) ∨ (bf = 0 ∧ m ≤ 16 ∧ (∀ i, i < m → KRight ks i) ∧ full = false) := by
  by_cases hm : 16 < m
  · rw [if_pos hm] at hbf
    exact .inl ⟨3, by decide, .inl ⟨hm, rfl⟩, by rw [hbf]; rfl⟩
  · rw [if_neg hm] at hbf
    rcases first_at (fun i => !decide (cK ks i = 0)) m with hall | ⟨j, hj, hjb, hjl⟩
    · have h0 : ∀ i, i < m → cK ks i = 0 := fun i hi => by simpa using hall i hi
      rw [badF_all _ _ _ h0 m (Nat.le_refl _)] at hbk
      cases full
      · exact .inr ⟨by rw [hbf, hbk, hb0]; rfl, by omega, fun i hi => right_cK (h0 i hi), rfl⟩
      · exact .inl ⟨5, by decide, .inr (.inr ⟨by omega, fun i hi => right_cK (h0 i hi), hf rfl, rfl⟩), by rw [hbf, hbk, hb0]; rfl⟩
    · have hb : ¬ cK ks j = 0 := by simpa using hjb
      have hl : ∀ i, i < j → cK ks i = 0 := fun i hi => by simpa using hjl i hi
      rw [badF_first _ _ _ _ hj hb hl m (Nat.le_refl _) (by omega)] at hbk
      rcases code_not hb with h2 | h3
      · exact .inl ⟨1, by decide, .inr (.inl ⟨by omega, j, hj, fun i hi => right_cK (hl i hi), h2, .inl rfl⟩), by rw [hbf, hbk]; exact h2⟩
      · exact .inl ⟨2, by decide, .inr (.inl ⟨by omega, j, hj, fun i hi => right_cK (hl i hi), h3, .inr rfl⟩), by rw [hbf, hbk]; exact h3⟩
theorem Sen.errs {A : Nat → Addr} {w : World} (hS : Sen A w) : ErrsAt (eV (sA A 1)) (eV (sA A 2)) w := ⟨hS.c1, hS.c2, hS.s1, hS.s2⟩
/-- Make, where something is amiss. -/
theorem nm_err {base P p B G n c : Nat} {th : Nat → Bool} {vr_ : Nat → Int} {W : Nat → Nat → Value} (A : Nat → Addr) (a : Option Addr) (m c2 e : Nat) (ks : Nat → Nat → Int) (he : MErr n th vr_ ks m e) (w : World) (hS : Sen A w) (h : NdAt w base P p B G n c th vr_ W) (hs : SrcK w a m ks B G) :
    Calls Tryd.prog 50 #[.pointer (some ⟨P, 0, none⟩), .slice a m c2] w fun r w' => r = .returned (.tuple #[.int .i64 0, .int .i64 0, eV (sA A e)]) ∧ Below w.heap.size w w' := by
  rcases he with ⟨hm, rfl⟩ | ⟨hm, j, hj, hl, hc, he⟩ | ⟨hm, hl, hf, rfl⟩
  · exact nm_many a m c2 hm (sA A 3) w hS.c3
  · refine nm_bad (eV (sA A 1)) (eV (sA A 2)) (sA A e) a m c2 j hm hj ks (Lib.hid hl) (Lib.hid ?_) w hS.errs hs
    have hk := kerr_code (eV (sA A 1)) (eV (sA A 2)) (ks j 0) (ks j 1) (ks j 2) (ks j 3) (ks j 4)
    rcases he with rfl | rfl
    · exact hk.1 hc
    · exact hk.2 hc
  · exact nm_full (eV (sA A 1)) (eV (sA A 2)) a m c2 ks hm (Lib.hid hl) (Lib.hid hf) (sA A 5) w hS.errs hS.c5 hS.s5 h hs
theorem is_fine (w : World) : Calls Tryd.prog 14 #[.nilIface, .int .i64 0] w fun e w' => e = .returned (.bool true) ∧ Below w.heap.size w w' :=
  (is_any _ _ _ 0 _ w (FaultIs.nil w)).mono fun e w' ⟨he, hb⟩ => ⟨by rw [he]; simp [faultB], hb⟩
/-- The error that Set tells: the last that is set wins. -/
def setB (ti sl : Bool) (c : Int) : Int := if ti = false then 105 else if sl = false then 103 else c
/-- Set, where something is amiss. -/
theorem nset_err {base P p B G n c : Nat} {th : Nat → Bool} {vr_ : Nat → Int} {W : Nat → Nat → Value} (A : Nat → Addr) (k s : Int) (y0 y1 y2 y3 y4 : Int) (ti sl : Bool) (hti : thereB n th k = ti) (hsl : decide (0 ≤ s ∧ s < 16) = sl) (hb : ¬ setB ti sl (codeOf y0 y1 y2 y3 y4) = 0) (w : World) (hS : Sen A w) (h : NdAt w base P p B G n c th vr_ W) :
    ∃ e : Nat, e < 12 ∧ setB ti sl (codeOf y0 y1 y2 y3 y4) = 101 + (e : Int) ∧ Calls Tryd.prog 51 #[.pointer (some ⟨P, 0, none⟩), .int .i64 k, .int .i64 s, (Value.agg #[.int .i64 y0, .int .i64 y1, .int .i64 y2, .int .i64 y3, .int .u32 y4])] w fun r w' => r = .returned (eV (sA A e)) ∧ Below w.heap.size w w' := by
  cases ti
  · exact ⟨4, by decide, rfl, nset_none k s y0 y1 y2 y3 y4 (Lib.hid hti) (sA A 4) w hS.c4 hS.s4 h⟩
  · cases sl
    · exact ⟨2, by decide, rfl, nset_range k s y0 y1 y2 y3 y4 (Lib.hid hti) (Lib.hid hsl) (sA A 2) w hS.c2 hS.s2 h⟩
    · have hk := kerr_code (eV (sA A 1)) (eV (sA A 2)) y0 y1 y2 y3 y4
      have hb' : ¬ codeOf y0 y1 y2 y3 y4 = 0 := hb
      rcases code_not hb' with h2 | h3
      · exact ⟨1, by decide, h2, nset_bad k s y0 y1 y2 y3 y4 (Lib.hid hti) (Lib.hid hsl) _ _ (sA A 1) (Lib.hid (hk.1 h2)) w hS.errs h⟩
      · exact ⟨2, by decide, h3, nset_bad k s y0 y1 y2 y3 y4 (Lib.hid hti) (Lib.hid hsl) _ _ (sA A 2) (Lib.hid (hk.2 h3)) w hS.errs h⟩
/-- One Do in a block of its own. -/
structure NDk (w : World) (dk : Nat) (kd id sl y0 y1 y2 y3 y4 : Int) (da : Option Addr) (m c : Nat) : Prop where
  lt : dk < w.heap.size
  c0 : w.cell? ⟨dk, 0, none⟩ = some (.int .i64 kd)
  c1 : w.cell? ⟨dk, 1, none⟩ = some (.int .i64 id)
  c2 : w.cell? ⟨dk, 2, none⟩ = some (.int .i64 sl)
  c3 : w.cell? ⟨dk, 3, none⟩ = some (.int .i64 y0)
  c4 : w.cell? ⟨dk, 4, none⟩ = some (.int .i64 y1)
  c5 : w.cell? ⟨dk, 5, none⟩ = some (.int .i64 y2)
  c6 : w.cell? ⟨dk, 6, none⟩ = some (.int .i64 y3)
  c7 : w.cell? ⟨dk, 7, none⟩ = some (.int .u32 y4)
  c8 : w.cell? ⟨dk, 8, none⟩ = some (.slice da m c)
section
variable {w w' : World} {dk m c : Nat} {kd id sl y0 y1 y2 y3 y4 : Int} {da : Option Addr}
theorem NDk.same (h : NDk w dk kd id sl y0 y1 y2 y3 y4 da m c) (hb : w'.heap[dk]? = w.heap[dk]?) (hs : w.heap.size ≤ w'.heap.size) : NDk w' dk kd id sl y0 y1 y2 y3 y4 da m c := by
  have up : ∀ o (v : Value), w.cell? ⟨dk, o, none⟩ = some v → w'.cell? ⟨dk, o, none⟩ = some v := fun o v hv => (World.cell?_of_block (a := ⟨dk, o, none⟩) hb).trans hv
  exact ⟨Nat.lt_of_lt_of_le h.lt hs, up _ _ h.c0, up _ _ h.c1, up _ _ h.c2, up _ _ h.c3, up _ _ h.c4, up _ _ h.c5, up _ _ h.c6, up _ _ h.c7, up _ _ h.c8⟩
theorem NDk.below (h : NDk w dk kd id sl y0 y1 y2 y3 y4 da m c) (hb : Below w.heap.size w w') : NDk w' dk kd id sl y0 y1 y2 y3 y4 da m c := h.same (hb.block _ h.lt) hb.size
theorem NDk.mid {N : Nat} (h : NDk w dk kd id sl y0 y1 y2 y3 y4 da m c) (hN : N ≤ dk) (hm : Mid N w.heap.size w w') : NDk w' dk kd id sl y0 y1 y2 y3 y4 da m c := h.same (hm.block dk hN h.lt) hm.size
theorem NDk.new (w : World) (kd id sl y0 y1 y2 y3 y4 : Int) (da : Option Addr) (m c : Nat) (T : TypeId) : NDk (w.alloc (.cells #[.int .i64 kd, .int .i64 id, .int .i64 sl, .int .i64 y0, .int .i64 y1, .int .i64 y2, .int .i64 y3, .int .u32 y4, .slice da m c] T)) w.heap.size kd id sl y0 y1 y2 y3 y4 da m c := ⟨by simp, by simp, by simp, by simp, by simp, by simp, by simp, by simp, by simp, by simp⟩
end
/-- The law's state: nodes; the row of those that ought to be there; what they ought to hold. -/
structure NZ (W0 w : World) (base P p B G c L H : Nat) (th : Nat → Bool) (vr : Nat → Int) (kk : Nat → Nat → Nat → Int) (tl : Nat → Bool) (kh : Nat → Nat → Nat → Int) : Prop where
  nv : NV W0 w base P p B G 5 c th vr (kW kk)
  lv : FR w W0.heap.size L 5 tl
  hv : w.ownsRow W0.heap.size 110 400 (.slice (some ⟨H, 0, none⟩) 1 1) 1 (flatV (kW kh) 5)
  lo : P < L ∧ p < L ∧ B < L ∧ G < L ∧ L < H
section
variable {W0 w w' : World} {base P p B G c L H : Nat} {th th' tl : Nat → Bool} {vr vr' : Nat → Int} {kk kk' kh : Nat → Nat → Nat → Int}
theorem NZ.step (h : NZ W0 w base P p B G c L H th vr kk tl kh) (hb : Below w.heap.size w w') : NZ W0 w' base P p B G c L H th vr kk tl kh := ⟨h.nv.step hb, h.lv.below hb, own_below h.hv hb, h.lo⟩
theorem NZ.made (h : NZ W0 w base P p B G c L H th vr kk tl kh) (hP : NdAt w' base P p B G 5 c th' vr' (kW kk')) (hb : PBelow w w' B G) : NZ W0 w' base P p B G c L H th' vr' kk' tl kh := by
  have h1 := (FR.lt h.lv).2
  have h2 := (h.hv.lt H rfl).2
  have h3 := h.lo
  refine ⟨h.nv.made hP hb, row_same h.lv fun g hg => ?_, row_same h.hv fun g hg => ?_, h.lo⟩
  · simp [Value.ownBlock] at hg
    exact hb.2.2.2.2 g (by omega) (by omega) (by omega)
  · simp [Value.ownBlock] at hg
    exact hb.2.2.2.2 g (by omega) (by omega) (by omega)
theorem NZ.hat (h : NZ W0 w base P p B G c L H th vr kk tl kh) (i j : Nat) (hi : i < 5) (hj : j < 80) : w.cell? ⟨H, i * 80 + j, none⟩ = some (kW kh i j) ∧ w.frozen? ⟨H, i * 80 + j, none⟩ = false := by
  refine ⟨?_, h.hv.frozenAt _⟩
  rw [h.hv.cellAt (i * 80 + j) (by omega), flatV_at (kW kh) 5 i j hi hj]
/-- The five cells of a key that ought to be there. -/
theorem NZ.key (h : NZ W0 w base P p B G c L H th vr kk tl kh) (i s : Nat) (hi : i < 5) (hs : s < 16) : w.cell? ⟨H, i * 80 + s * 5, none⟩ = some (.int .i64 (kh i s 0)) ∧ w.cell? ⟨H, i * 80 + s * 5 + 1, none⟩ = some (.int .i64 (kh i s 1)) ∧ w.cell? ⟨H, i * 80 + s * 5 + 2, none⟩ = some (.int .i64 (kh i s 2)) ∧ w.cell? ⟨H, i * 80 + s * 5 + 3, none⟩ = some (.int .i64 (kh i s 3)) ∧ w.cell? ⟨H, i * 80 + s * 5 + 4, none⟩ = some (.int .u32 (kh i s 4)) := by
  have c := fun q (hq : q < 5) => (h.hat i (s * 5 + q) hi (by omega)).1
  have e := fun q (hq : q < 5) => kW_q kh i s q hq
  have c0 := c 0 (by decide)
  have c1 := c 1 (by decide)
  have c2 := c 2 (by decide)
  have c3 := c 3 (by decide)
  have c4 := c 4 (by decide)
  rw [e 0 (by decide), Nat.add_zero] at c0
  rw [e 1 (by decide), ← Nat.add_assoc] at c1
  rw [e 2 (by decide), ← Nat.add_assoc] at c2
  rw [e 3 (by decide), ← Nat.add_assoc] at c3
  rw [e 4 (by decide), ← Nat.add_assoc] at c4
  exact ⟨c0, c1, c2, c3, c4⟩
theorem NZ.free (h : NZ W0 w base P p B G c L H th vr kk tl kh) (j : Nat) : w.frozen? ⟨H, j, none⟩ = false := h.hv.frozenAt j
theorem NV.far {n F : Nat} {W : Nat → Nat → Value} (h : NV W0 w base P p B G n c th vr W) (hg : w.grownBy w' (some F)) (h0 : W0.heap.size ≤ F) (h1 : F ≠ P) (h2 : F ≠ p) (h3 : F ≠ B) (h4 : F ≠ G) : NV W0 w' base P p B G n c th vr W :=
  ⟨h.bel.grown hg h.bel.size (fun k hk => by injection hk with e; omega), h.wb, h.nd.kept hg (Ne.symm h1) (Ne.symm h2) (Ne.symm h3) (Ne.symm h4)⟩
theorem NZ.live (h : NZ W0 w base P p B G c L H th vr kk tl kh) (k : Nat) (hk : k < 5) (x : Bool) : NZ W0 (w.setCell ⟨L, k, none⟩ (.bool x)) base P p B G c L H th vr kk (upd tl k x) kh ∧ w.grownBy (w.setCell ⟨L, k, none⟩ (.bool x)) (some L) := by
  have hs := FR.set h.lv k hk x
  have h3 := h.lo
  have h1 := FR.lt h.lv
  exact ⟨⟨h.nv.far hs.2 h1.1 (by omega) (by omega) (by omega) (by omega), hs.1, h.hv.kept hs.2 (.inr (by simp [Value.ownBlock]; omega)), h.lo⟩, hs.2⟩
theorem NZ.cells (h : NZ W0 w base P p B G c L H th vr kk tl kh) (i o : Nat) (hi : i < 5) (xs : List Value) (hx : o + xs.length ≤ 80) (kh' : Nat → Nat → Nat → Int) (he : ∀ a b, b < 80 → updV (kW kh) i o xs a b = kW kh' a b) : NZ W0 (w.setCells H (i * 80 + o) xs) base P p B G c L H th vr kk tl kh' ∧ w.grownBy (w.setCells H (i * 80 + o) xs) (some H) := by
  have hs := own_setCells xs (i * 80 + o) _ _ h.hv
  rw [flatV_over (kW kh) 5 i o xs hi hx, flatV_congr (fun a _ b hb => he a b hb)] at hs
  have h3 := h.lo
  have h1 := h.hv.lt H rfl
  exact ⟨⟨h.nv.far hs.2 h1.1 (by omega) (by omega) (by omega) (by omega), row_same h.lv (fun g hg => hs.2.block g ((World.ownsRow.lt h.lv g hg).2) (fun e => by simp [Value.ownBlock] at hg; injection e with e; omega)), hs.1, h.lo⟩, hs.2⟩
/-- A node's keys that ought to be are all Voids. -/
theorem NZ.clear (h : NZ W0 w base P p B G c L H th vr kk tl kh) (i : Nat) (hi : i < 5) (ks : Nat → Nat → Int) : NZ W0 (w.setCells H (i * 80) zs80) base P p B G c L H th vr kk tl (madeK kh i 0 ks) ∧ w.grownBy (w.setCells H (i * 80) zs80) (some H) := by
  have := h.cells i 0 hi zs80 (by rw [zs80_len]; omega) (madeK kh i 0 ks) (fun a b hb => kW_zero kh i ks a b hb)
  rwa [Nat.add_zero] at this
/-- One key that ought to be. -/
theorem NZ.put (h : NZ W0 w base P p B G c L H th vr kk tl kh) (i s : Nat) (hi : i < 5) (hs : s < 16) (y0 y1 y2 y3 y4 : Int) : NZ W0 (w.setCells H (i * 80 + s * 5) (k5 y0 y1 y2 y3 y4)) base P p B G c L H th vr kk tl (updK kh i s (kY y0 y1 y2 y3 y4)) ∧ w.grownBy (w.setCells H (i * 80 + s * 5) (k5 y0 y1 y2 y3 y4)) (some H) :=
  h.cells i (s * 5) hi _ (by have : (k5 y0 y1 y2 y3 y4).length = 5 := rfl; omega) _ (fun a b hb => kW_set kh i s y0 y1 y2 y3 y4 a b hb)
/-- The keys of a node that ought to be there, as a row. -/
theorem NZ.row (h : NZ W0 w base P p B G c L H th vr kk tl kh) (i : Nat) (hi : i < 5) : KS w (some ⟨H, i * 80, none⟩) 16 (kh i) := ⟨fun s hs => ⟨_, rfl, (h.hv.lt H rfl).2, fun q hq => by
  rw [addr_at, (h.hat i (s * 5 + q) hi (by omega)).1, kW_q _ _ _ _ hq]⟩⟩
end
theorem madeK_step (kh : Nat → Nat → Nat → Int) (j u : Nat) (ks : Nat → Nat → Int) : updK (madeK kh j u ks) j u (kY (ks u 0) (ks u 1) (ks u 2) (ks u 3) (ks u 4)) = fun i s q => if q < 5 then madeK kh j (u + 1) ks i s q else updK (madeK kh j u ks) j u (kY (ks u 0) (ks u 1) (ks u 2) (ks u 3) (ks u 4)) i s q := by
  funext i s q
  by_cases hq : q < 5
  · rw [if_pos hq]
    unfold updK madeK
    by_cases h : i = j
    · by_cases e : s = u
      · subst e
        rw [if_pos ⟨h, rfl⟩, if_pos h, if_pos (by omega)]
        obtain rfl | rfl | rfl | rfl | rfl := five q hq <;> rfl
      · rw [if_neg (fun x => e x.2), if_pos h, if_pos h]
        by_cases hs : s < u
        · rw [if_pos hs, if_pos (by omega)]
        · rw [if_neg hs, if_neg (by omega)]
    · rw [if_neg (fun x => h x.1), if_neg h, if_neg h]
  · rw [if_neg hq]
theorem kW_step (kh : Nat → Nat → Nat → Int) (j u : Nat) (ks : Nat → Nat → Int) : kW (updK (madeK kh j u ks) j u (kY (ks u 0) (ks u 1) (ks u 2) (ks u 3) (ks u 4))) = kW (madeK kh j (u + 1) ks) := by
  funext i b
  unfold kW
  rw [madeK_step]
  show kval (b % 5) (if b % 5 < 5 then _ else _) = _
  rw [if_pos (by omega)]
end Go.Proofs.YtdcdfaeokbdalaaDoor
