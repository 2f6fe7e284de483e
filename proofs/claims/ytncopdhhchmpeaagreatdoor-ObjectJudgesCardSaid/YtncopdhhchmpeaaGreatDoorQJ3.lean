/-
  ValidE, ValidZ, Orders, RightMath, Ref7, Kr, Ok, Mt2, Od, Oe, Oh, BkE, BkF, Ds2, BkG, BkN, BkO, Wn, Ds3, Ds4, Dq, Yh, Yi, Ol, Oi, Om, On: what ObjectJudges reaches of them.
-/
import Derived.Test.YtncopdhhchmpeaaGreatDoorQJ2
namespace Go.Proofs.YtncopdhhchmpeaaGreatDoor
open Go.ChangeShapes Go.WideShapes Go.ChangeAt Go.RowKit
set_option linter.unusedVariables false
set_option maxHeartbeats 1000000 in
theorem valid_F_ok (k0 k1 k2 k3 k4 : Int) (h0 : 0 ≤ k0) (h14 : k0 ≤ 14) (h1 : ¬ k0 = 1) (h2 : ¬ k0 = 2) (h3 : ¬ k0 = 3) (h5 : ¬ k0 = 5) (h6 : ¬ k0 = 6) (hm : Hid (manyOf k0 = 1)) (g1 : 0 ≤ k1) (g2 : k1 < 1) (g3 : 0 ≤ k2) (g4 : k2 ≤ 0) (g5 : 0 ≤ k3) (g6 : k3 ≤ 0) (g7 : k4 ≤ 0) (w : World) :
    Calls Tryz.prog 38 #[Value.agg #[.int .i64 k0, .int .i64 k1, .int .i64 k2, .int .i64 k3, .int .u32 k4]] w fun e w' => e = .returned (.int .i64 0) ∧ Below w.heap.size w w' := by
  have e1 : (k0 == 1) = false := by simpa using h1
  have e2 : (k0 == 2) = false := by simpa using h2
  have e3 : (k0 == 3) = false := by simpa using h3
  have e5 : (k0 == 5) = false := by simpa using h5
  have e6 : (k0 == 6) = false := by simpa using h6
  have e0 : decide (k0 < 0) = false := by rw [decide_eq_false_iff_not]; omega
  have e14 : decide (14 < k0) = false := by rw [decide_eq_false_iff_not]; omega
  have d0 : decide (k1 < 0) = false := by rw [decide_eq_false_iff_not]; omega
  have d1 : decide (1 ≤ k1) = false := by rw [decide_eq_false_iff_not]; omega
  have d2 : decide (k2 < 0) = false := by rw [decide_eq_false_iff_not]; omega
  have d3 : decide (0 < k2) = false := by rw [decide_eq_false_iff_not]; omega
  have d4 : decide (k3 < 0) = false := by rw [decide_eq_false_iff_not]; omega
  have d5 : decide (0 < k3) = false := by rw [decide_eq_false_iff_not]; omega
  have d6 : decide (0 < k4) = false := by rw [decide_eq_false_iff_not]; omega
  go_enter Tryz.func38, Tryz.ntmps38
  go_wp2_with (first | (go_at_call 82; refine (many_is _ _ hm _).mono ?_; rintro e w' ⟨rfl, rfl⟩))
  go_quiet ((go_at_call 82; exact quiet_left (many_is _ _ hm _)))
  go_wp2
  go_ret
  exact ⟨rfl, below_drewN ((Below.refl _ _).alloc (Nat.le_refl _) _) _⟩
set_option maxHeartbeats 1000000 in
theorem valid_F_b0 (k0 k1 k2 k3 k4 : Int) (h0 : 0 ≤ k0) (h14 : k0 ≤ 14) (h1 : ¬ k0 = 1) (h2 : ¬ k0 = 2) (h3 : ¬ k0 = 3) (h5 : ¬ k0 = 5) (h6 : ¬ k0 = 6) (hm : Hid (manyOf k0 = 1))  (g : ¬ 0 ≤ k1) (w : World) :
    Calls Tryz.prog 38 #[Value.agg #[.int .i64 k0, .int .i64 k1, .int .i64 k2, .int .i64 k3, .int .u32 k4]] w fun e w' => e = .returned (.int .i64 103) ∧ Below w.heap.size w w' := by
  have e1 : (k0 == 1) = false := by simpa using h1
  have e2 : (k0 == 2) = false := by simpa using h2
  have e3 : (k0 == 3) = false := by simpa using h3
  have e5 : (k0 == 5) = false := by simpa using h5
  have e6 : (k0 == 6) = false := by simpa using h6
  have e0 : decide (k0 < 0) = false := by rw [decide_eq_false_iff_not]; omega
  have e14 : decide (14 < k0) = false := by rw [decide_eq_false_iff_not]; omega
  have d0 : decide (k1 < 0) = true := by rw [decide_eq_true_iff]; omega
  go_enter Tryz.func38, Tryz.ntmps38
  go_wp2_with (first | (go_at_call 82; refine (many_is _ _ hm _).mono ?_; rintro e w' ⟨rfl, rfl⟩))
  go_quiet ((go_at_call 82; exact quiet_left (many_is _ _ hm _)))
  go_wp2
  go_ret
  exact ⟨rfl, below_drewN ((Below.refl _ _).alloc (Nat.le_refl _) _) _⟩
set_option maxHeartbeats 1000000 in
theorem valid_F_b1 (k0 k1 k2 k3 k4 : Int) (h0 : 0 ≤ k0) (h14 : k0 ≤ 14) (h1 : ¬ k0 = 1) (h2 : ¬ k0 = 2) (h3 : ¬ k0 = 3) (h5 : ¬ k0 = 5) (h6 : ¬ k0 = 6) (hm : Hid (manyOf k0 = 1)) (g0 : 0 ≤ k1) (g : ¬ k1 < 1) (w : World) :
    Calls Tryz.prog 38 #[Value.agg #[.int .i64 k0, .int .i64 k1, .int .i64 k2, .int .i64 k3, .int .u32 k4]] w fun e w' => e = .returned (.int .i64 103) ∧ Below w.heap.size w w' := by
  have e1 : (k0 == 1) = false := by simpa using h1
  have e2 : (k0 == 2) = false := by simpa using h2
  have e3 : (k0 == 3) = false := by simpa using h3
  have e5 : (k0 == 5) = false := by simpa using h5
  have e6 : (k0 == 6) = false := by simpa using h6
  have e0 : decide (k0 < 0) = false := by rw [decide_eq_false_iff_not]; omega
  have e14 : decide (14 < k0) = false := by rw [decide_eq_false_iff_not]; omega
  have d0 : decide (k1 < 0) = false := by rw [decide_eq_false_iff_not]; omega
  have d1 : decide (1 ≤ k1) = true := by rw [decide_eq_true_iff]; omega
  go_enter Tryz.func38, Tryz.ntmps38
  go_wp2_with (first | (go_at_call 82; refine (many_is _ _ hm _).mono ?_; rintro e w' ⟨rfl, rfl⟩))
  go_quiet ((go_at_call 82; exact quiet_left (many_is _ _ hm _)))
  go_wp2
  go_ret
  exact ⟨rfl, below_drewN ((Below.refl _ _).alloc (Nat.le_refl _) _) _⟩
set_option maxHeartbeats 1000000 in
theorem valid_F_b2 (k0 k1 k2 k3 k4 : Int) (h0 : 0 ≤ k0) (h14 : k0 ≤ 14) (h1 : ¬ k0 = 1) (h2 : ¬ k0 = 2) (h3 : ¬ k0 = 3) (h5 : ¬ k0 = 5) (h6 : ¬ k0 = 6) (hm : Hid (manyOf k0 = 1)) (g0 : 0 ≤ k1) (g1 : k1 < 1) (g : ¬ 0 ≤ k2) (w : World) :
    Calls Tryz.prog 38 #[Value.agg #[.int .i64 k0, .int .i64 k1, .int .i64 k2, .int .i64 k3, .int .u32 k4]] w fun e w' => e = .returned (.int .i64 103) ∧ Below w.heap.size w w' := by
  have e1 : (k0 == 1) = false := by simpa using h1
  have e2 : (k0 == 2) = false := by simpa using h2
  have e3 : (k0 == 3) = false := by simpa using h3
  have e5 : (k0 == 5) = false := by simpa using h5
  have e6 : (k0 == 6) = false := by simpa using h6
  have e0 : decide (k0 < 0) = false := by rw [decide_eq_false_iff_not]; omega
  have e14 : decide (14 < k0) = false := by rw [decide_eq_false_iff_not]; omega
  have d0 : decide (k1 < 0) = false := by rw [decide_eq_false_iff_not]; omega
  have d1 : decide (1 ≤ k1) = false := by rw [decide_eq_false_iff_not]; omega
  have d2 : decide (k2 < 0) = true := by rw [decide_eq_true_iff]; omega
  go_enter Tryz.func38, Tryz.ntmps38
  go_wp2_with (first | (go_at_call 82; refine (many_is _ _ hm _).mono ?_; rintro e w' ⟨rfl, rfl⟩))
  go_quiet ((go_at_call 82; exact quiet_left (many_is _ _ hm _)))
  go_wp2
  go_ret
  exact ⟨rfl, below_drewN ((Below.refl _ _).alloc (Nat.le_refl _) _) _⟩
set_option maxHeartbeats 1000000 in
theorem valid_F_b3 (k0 k1 k2 k3 k4 : Int) (h0 : 0 ≤ k0) (h14 : k0 ≤ 14) (h1 : ¬ k0 = 1) (h2 : ¬ k0 = 2) (h3 : ¬ k0 = 3) (h5 : ¬ k0 = 5) (h6 : ¬ k0 = 6) (hm : Hid (manyOf k0 = 1)) (g0 : 0 ≤ k1) (g1 : k1 < 1) (g2 : 0 ≤ k2) (g : ¬ k2 ≤ 0) (w : World) :
    Calls Tryz.prog 38 #[Value.agg #[.int .i64 k0, .int .i64 k1, .int .i64 k2, .int .i64 k3, .int .u32 k4]] w fun e w' => e = .returned (.int .i64 103) ∧ Below w.heap.size w w' := by
  have e1 : (k0 == 1) = false := by simpa using h1
  have e2 : (k0 == 2) = false := by simpa using h2
  have e3 : (k0 == 3) = false := by simpa using h3
  have e5 : (k0 == 5) = false := by simpa using h5
  have e6 : (k0 == 6) = false := by simpa using h6
  have e0 : decide (k0 < 0) = false := by rw [decide_eq_false_iff_not]; omega
  have e14 : decide (14 < k0) = false := by rw [decide_eq_false_iff_not]; omega
  have d0 : decide (k1 < 0) = false := by rw [decide_eq_false_iff_not]; omega
  have d1 : decide (1 ≤ k1) = false := by rw [decide_eq_false_iff_not]; omega
  have d2 : decide (k2 < 0) = false := by rw [decide_eq_false_iff_not]; omega
  have d3 : decide (0 < k2) = true := by rw [decide_eq_true_iff]; omega
  go_enter Tryz.func38, Tryz.ntmps38
  go_wp2_with (first | (go_at_call 82; refine (many_is _ _ hm _).mono ?_; rintro e w' ⟨rfl, rfl⟩))
  go_quiet ((go_at_call 82; exact quiet_left (many_is _ _ hm _)))
  go_wp2
  go_ret
  exact ⟨rfl, below_drewN ((Below.refl _ _).alloc (Nat.le_refl _) _) _⟩
set_option maxHeartbeats 1000000 in
theorem valid_F_b4 (k0 k1 k2 k3 k4 : Int) (h0 : 0 ≤ k0) (h14 : k0 ≤ 14) (h1 : ¬ k0 = 1) (h2 : ¬ k0 = 2) (h3 : ¬ k0 = 3) (h5 : ¬ k0 = 5) (h6 : ¬ k0 = 6) (hm : Hid (manyOf k0 = 1)) (g0 : 0 ≤ k1) (g1 : k1 < 1) (g2 : 0 ≤ k2) (g3 : k2 ≤ 0) (g : ¬ 0 ≤ k3) (w : World) :
    Calls Tryz.prog 38 #[Value.agg #[.int .i64 k0, .int .i64 k1, .int .i64 k2, .int .i64 k3, .int .u32 k4]] w fun e w' => e = .returned (.int .i64 103) ∧ Below w.heap.size w w' := by
  have e1 : (k0 == 1) = false := by simpa using h1
  have e2 : (k0 == 2) = false := by simpa using h2
  have e3 : (k0 == 3) = false := by simpa using h3
  have e5 : (k0 == 5) = false := by simpa using h5
  have e6 : (k0 == 6) = false := by simpa using h6
  have e0 : decide (k0 < 0) = false := by rw [decide_eq_false_iff_not]; omega
  have e14 : decide (14 < k0) = false := by rw [decide_eq_false_iff_not]; omega
  have d0 : decide (k1 < 0) = false := by rw [decide_eq_false_iff_not]; omega
  have d1 : decide (1 ≤ k1) = false := by rw [decide_eq_false_iff_not]; omega
  have d2 : decide (k2 < 0) = false := by rw [decide_eq_false_iff_not]; omega
  have d3 : decide (0 < k2) = false := by rw [decide_eq_false_iff_not]; omega
  have d4 : decide (k3 < 0) = true := by rw [decide_eq_true_iff]; omega
  go_enter Tryz.func38, Tryz.ntmps38
  go_wp2_with (first | (go_at_call 82; refine (many_is _ _ hm _).mono ?_; rintro e w' ⟨rfl, rfl⟩))
  go_quiet ((go_at_call 82; exact quiet_left (many_is _ _ hm _)))
  go_wp2
  go_ret
  exact ⟨rfl, below_drewN ((Below.refl _ _).alloc (Nat.le_refl _) _) _⟩
set_option maxHeartbeats 1000000 in
theorem valid_F_b5 (k0 k1 k2 k3 k4 : Int) (h0 : 0 ≤ k0) (h14 : k0 ≤ 14) (h1 : ¬ k0 = 1) (h2 : ¬ k0 = 2) (h3 : ¬ k0 = 3) (h5 : ¬ k0 = 5) (h6 : ¬ k0 = 6) (hm : Hid (manyOf k0 = 1)) (g0 : 0 ≤ k1) (g1 : k1 < 1) (g2 : 0 ≤ k2) (g3 : k2 ≤ 0) (g4 : 0 ≤ k3) (g : ¬ k3 ≤ 0) (w : World) :
    Calls Tryz.prog 38 #[Value.agg #[.int .i64 k0, .int .i64 k1, .int .i64 k2, .int .i64 k3, .int .u32 k4]] w fun e w' => e = .returned (.int .i64 103) ∧ Below w.heap.size w w' := by
  have e1 : (k0 == 1) = false := by simpa using h1
  have e2 : (k0 == 2) = false := by simpa using h2
  have e3 : (k0 == 3) = false := by simpa using h3
  have e5 : (k0 == 5) = false := by simpa using h5
  have e6 : (k0 == 6) = false := by simpa using h6
  have e0 : decide (k0 < 0) = false := by rw [decide_eq_false_iff_not]; omega
  have e14 : decide (14 < k0) = false := by rw [decide_eq_false_iff_not]; omega
  have d0 : decide (k1 < 0) = false := by rw [decide_eq_false_iff_not]; omega
  have d1 : decide (1 ≤ k1) = false := by rw [decide_eq_false_iff_not]; omega
  have d2 : decide (k2 < 0) = false := by rw [decide_eq_false_iff_not]; omega
  have d3 : decide (0 < k2) = false := by rw [decide_eq_false_iff_not]; omega
  have d4 : decide (k3 < 0) = false := by rw [decide_eq_false_iff_not]; omega
  have d5 : decide (0 < k3) = true := by rw [decide_eq_true_iff]; omega
  go_enter Tryz.func38, Tryz.ntmps38
  go_wp2_with (first | (go_at_call 82; refine (many_is _ _ hm _).mono ?_; rintro e w' ⟨rfl, rfl⟩))
  go_quiet ((go_at_call 82; exact quiet_left (many_is _ _ hm _)))
  go_wp2
  go_ret
  exact ⟨rfl, below_drewN ((Below.refl _ _).alloc (Nat.le_refl _) _) _⟩
set_option maxHeartbeats 1000000 in
theorem valid_F_b6 (k0 k1 k2 k3 k4 : Int) (h0 : 0 ≤ k0) (h14 : k0 ≤ 14) (h1 : ¬ k0 = 1) (h2 : ¬ k0 = 2) (h3 : ¬ k0 = 3) (h5 : ¬ k0 = 5) (h6 : ¬ k0 = 6) (hm : Hid (manyOf k0 = 1)) (g0 : 0 ≤ k1) (g1 : k1 < 1) (g2 : 0 ≤ k2) (g3 : k2 ≤ 0) (g4 : 0 ≤ k3) (g5 : k3 ≤ 0) (g : ¬ k4 ≤ 0) (w : World) :
    Calls Tryz.prog 38 #[Value.agg #[.int .i64 k0, .int .i64 k1, .int .i64 k2, .int .i64 k3, .int .u32 k4]] w fun e w' => e = .returned (.int .i64 103) ∧ Below w.heap.size w w' := by
  have e1 : (k0 == 1) = false := by simpa using h1
  have e2 : (k0 == 2) = false := by simpa using h2
  have e3 : (k0 == 3) = false := by simpa using h3
  have e5 : (k0 == 5) = false := by simpa using h5
  have e6 : (k0 == 6) = false := by simpa using h6
  have e0 : decide (k0 < 0) = false := by rw [decide_eq_false_iff_not]; omega
  have e14 : decide (14 < k0) = false := by rw [decide_eq_false_iff_not]; omega
  have d0 : decide (k1 < 0) = false := by rw [decide_eq_false_iff_not]; omega
  have d1 : decide (1 ≤ k1) = false := by rw [decide_eq_false_iff_not]; omega
  have d2 : decide (k2 < 0) = false := by rw [decide_eq_false_iff_not]; omega
  have d3 : decide (0 < k2) = false := by rw [decide_eq_false_iff_not]; omega
  have d4 : decide (k3 < 0) = false := by rw [decide_eq_false_iff_not]; omega
  have d5 : decide (0 < k3) = false := by rw [decide_eq_false_iff_not]; omega
  have d6 : decide (0 < k4) = true := by rw [decide_eq_true_iff]; omega
  go_enter Tryz.func38, Tryz.ntmps38
  go_wp2_with (first | (go_at_call 82; refine (many_is _ _ hm _).mono ?_; rintro e w' ⟨rfl, rfl⟩))
  go_quiet ((go_at_call 82; exact quiet_left (many_is _ _ hm _)))
  go_wp2
  go_ret
  exact ⟨rfl, below_drewN ((Below.refl _ _).alloc (Nat.le_refl _) _) _⟩
end Go.Proofs.YtncopdhhchmpeaaGreatDoor
namespace Go.Proofs.YtncopdhhchmpeaaGreatDoor
open Go.ChangeShapes Go.WideShapes Go.ChangeAt Go.RowKit
set_option linter.unusedVariables false
def mostOf (k : Int) : Int := if 1 < manyOf k then 1048575 else 0
def rightsOf (k : Int) : Int := if k = 2 ∨ k = 3 then 7 else 0
def dataOf (k : Int) : Int := if k = 1 then 4294967295 else if k = 2 then 4 else if k = 5 ∨ k = 6 then 536870911 else 0
def InB (k0 k1 k2 k3 k4 : Int) : Prop := 0 ≤ k1 ∧ k1 < manyOf k0 ∧ 0 ≤ k2 ∧ k2 ≤ mostOf k0 ∧ 0 ≤ k3 ∧ k3 ≤ rightsOf k0 ∧ k4 ≤ dataOf k0
instance (k0 k1 k2 k3 k4 : Int) : Decidable (InB k0 k1 k2 k3 k4) := by unfold InB; infer_instance
/-- The error's number of a key that may not be; 0: it may. -/
def codeOf (k0 k1 k2 k3 k4 : Int) : Int := if k0 < 0 ∨ 14 < k0 then 102 else if InB k0 k1 k2 k3 k4 then 0 else 103
theorem codeOf_102 (k0 k1 k2 k3 k4 : Int) (h : k0 < 0 ∨ 14 < k0) : codeOf k0 k1 k2 k3 k4 = 102 := by unfold codeOf; rw [if_pos h]
theorem codeOf_0 (k0 k1 k2 k3 k4 : Int) (h : ¬ (k0 < 0 ∨ 14 < k0)) (hi : InB k0 k1 k2 k3 k4) : codeOf k0 k1 k2 k3 k4 = 0 := by unfold codeOf; rw [if_neg h, if_pos hi]
theorem codeOf_103 (k0 k1 k2 k3 k4 : Int) (h : ¬ (k0 < 0 ∨ 14 < k0)) (hi : ¬ InB k0 k1 k2 k3 k4) : codeOf k0 k1 k2 k3 k4 = 103 := by unfold codeOf; rw [if_neg h, if_neg hi]
theorem valid_1 (k1 k2 k3 k4 : Int) (gu : k4 ≤ 4294967295) (w : World) : Calls Tryz.prog 38 #[Value.agg #[.int .i64 1, .int .i64 k1, .int .i64 k2, .int .i64 k3, .int .u32 k4]] w fun e w' => e = .returned (.int .i64 (codeOf 1 k1 k2 k3 k4)) ∧ Below w.heap.size w w' := by
  have hm : manyOf 1 = 1 := rfl
  have nk : ¬ ((1 : Int) < 0 ∨ 14 < (1 : Int)) := by omega
  have hmo : mostOf 1 = 0 := rfl
  have hrg : rightsOf 1 = 0 := rfl
  have hda : dataOf 1 = 4294967295 := rfl
  by_cases g0 : 0 ≤ k1
  rotate_left
  · rw [codeOf_103 _ _ _ _ _ nk (by unfold InB; rw [hm, hmo, hrg, hda]; omega)]; exact valid_1_b0 k1 k2 k3 k4 (Lib.hid hm)  g0 w
  by_cases g1 : k1 < 1
  rotate_left
  · rw [codeOf_103 _ _ _ _ _ nk (by unfold InB; rw [hm, hmo, hrg, hda]; omega)]; exact valid_1_b1 k1 k2 k3 k4 (Lib.hid hm) g0 g1 w
  by_cases g2 : 0 ≤ k2
  rotate_left
  · rw [codeOf_103 _ _ _ _ _ nk (by unfold InB; rw [hm, hmo, hrg, hda]; omega)]; exact valid_1_b2 k1 k2 k3 k4 (Lib.hid hm) g0 g1 g2 w
  by_cases g3 : k2 ≤ 0
  rotate_left
  · rw [codeOf_103 _ _ _ _ _ nk (by unfold InB; rw [hm, hmo, hrg, hda]; omega)]; exact valid_1_b3 k1 k2 k3 k4 (Lib.hid hm) g0 g1 g2 g3 w
  by_cases g4 : 0 ≤ k3
  rotate_left
  · rw [codeOf_103 _ _ _ _ _ nk (by unfold InB; rw [hm, hmo, hrg, hda]; omega)]; exact valid_1_b4 k1 k2 k3 k4 (Lib.hid hm) g0 g1 g2 g3 g4 w
  by_cases g5 : k3 ≤ 0
  rotate_left
  · rw [codeOf_103 _ _ _ _ _ nk (by unfold InB; rw [hm, hmo, hrg, hda]; omega)]; exact valid_1_b5 k1 k2 k3 k4 (Lib.hid hm) g0 g1 g2 g3 g4 g5 w
  by_cases g6 : k4 ≤ 4294967295
  rotate_left
  · rw [codeOf_103 _ _ _ _ _ nk (by unfold InB; rw [hm, hmo, hrg, hda]; omega)]; exact valid_1_b6 k1 k2 k3 k4 (Lib.hid hm) g0 g1 g2 g3 g4 g5 g6 gu w
  rw [codeOf_0 _ _ _ _ _ nk (by unfold InB; rw [hm, hmo, hrg, hda]; omega)]; exact valid_1_ok k1 k2 k3 k4 (Lib.hid hm) g0 g1 g2 g3 g4 g5 g6 w
theorem valid_2 (k1 k2 k3 k4 : Int) (gu : k4 ≤ 4294967295) (w : World) : Calls Tryz.prog 38 #[Value.agg #[.int .i64 2, .int .i64 k1, .int .i64 k2, .int .i64 k3, .int .u32 k4]] w fun e w' => e = .returned (.int .i64 (codeOf 2 k1 k2 k3 k4)) ∧ Below w.heap.size w w' := by
  have hm : manyOf 2 = 256 := rfl
  have nk : ¬ ((2 : Int) < 0 ∨ 14 < (2 : Int)) := by omega
  have hmo : mostOf 2 = 1048575 := rfl
  have hrg : rightsOf 2 = 7 := rfl
  have hda : dataOf 2 = 4 := rfl
  by_cases g0 : 0 ≤ k1
  rotate_left
  · rw [codeOf_103 _ _ _ _ _ nk (by unfold InB; rw [hm, hmo, hrg, hda]; omega)]; exact valid_2_b0 k1 k2 k3 k4 (Lib.hid hm)  g0 w
  by_cases g1 : k1 < 256
  rotate_left
  · rw [codeOf_103 _ _ _ _ _ nk (by unfold InB; rw [hm, hmo, hrg, hda]; omega)]; exact valid_2_b1 k1 k2 k3 k4 (Lib.hid hm) g0 g1 w
  by_cases g2 : 0 ≤ k2
  rotate_left
  · rw [codeOf_103 _ _ _ _ _ nk (by unfold InB; rw [hm, hmo, hrg, hda]; omega)]; exact valid_2_b2 k1 k2 k3 k4 (Lib.hid hm) g0 g1 g2 w
  by_cases g3 : k2 ≤ 1048575
  rotate_left
  · rw [codeOf_103 _ _ _ _ _ nk (by unfold InB; rw [hm, hmo, hrg, hda]; omega)]; exact valid_2_b3 k1 k2 k3 k4 (Lib.hid hm) g0 g1 g2 g3 w
  by_cases g4 : 0 ≤ k3
  rotate_left
  · rw [codeOf_103 _ _ _ _ _ nk (by unfold InB; rw [hm, hmo, hrg, hda]; omega)]; exact valid_2_b4 k1 k2 k3 k4 (Lib.hid hm) g0 g1 g2 g3 g4 w
  by_cases g5 : k3 ≤ 7
  rotate_left
  · rw [codeOf_103 _ _ _ _ _ nk (by unfold InB; rw [hm, hmo, hrg, hda]; omega)]; exact valid_2_b5 k1 k2 k3 k4 (Lib.hid hm) g0 g1 g2 g3 g4 g5 w
  by_cases g6 : k4 ≤ 4
  rotate_left
  · rw [codeOf_103 _ _ _ _ _ nk (by unfold InB; rw [hm, hmo, hrg, hda]; omega)]; exact valid_2_b6 k1 k2 k3 k4 (Lib.hid hm) g0 g1 g2 g3 g4 g5 g6 w
  rw [codeOf_0 _ _ _ _ _ nk (by unfold InB; rw [hm, hmo, hrg, hda]; omega)]; exact valid_2_ok k1 k2 k3 k4 (Lib.hid hm) g0 g1 g2 g3 g4 g5 g6 w
theorem valid_3 (k1 k2 k3 k4 : Int) (gu : k4 ≤ 4294967295) (w : World) : Calls Tryz.prog 38 #[Value.agg #[.int .i64 3, .int .i64 k1, .int .i64 k2, .int .i64 k3, .int .u32 k4]] w fun e w' => e = .returned (.int .i64 (codeOf 3 k1 k2 k3 k4)) ∧ Below w.heap.size w w' := by
  have hm : manyOf 3 = 256 := rfl
  have nk : ¬ ((3 : Int) < 0 ∨ 14 < (3 : Int)) := by omega
  have hmo : mostOf 3 = 1048575 := rfl
  have hrg : rightsOf 3 = 7 := rfl
  have hda : dataOf 3 = 0 := rfl
  by_cases g0 : 0 ≤ k1
  rotate_left
  · rw [codeOf_103 _ _ _ _ _ nk (by unfold InB; rw [hm, hmo, hrg, hda]; omega)]; exact valid_3_b0 k1 k2 k3 k4 (Lib.hid hm)  g0 w
  by_cases g1 : k1 < 256
  rotate_left
  · rw [codeOf_103 _ _ _ _ _ nk (by unfold InB; rw [hm, hmo, hrg, hda]; omega)]; exact valid_3_b1 k1 k2 k3 k4 (Lib.hid hm) g0 g1 w
  by_cases g2 : 0 ≤ k2
  rotate_left
  · rw [codeOf_103 _ _ _ _ _ nk (by unfold InB; rw [hm, hmo, hrg, hda]; omega)]; exact valid_3_b2 k1 k2 k3 k4 (Lib.hid hm) g0 g1 g2 w
  by_cases g3 : k2 ≤ 1048575
  rotate_left
  · rw [codeOf_103 _ _ _ _ _ nk (by unfold InB; rw [hm, hmo, hrg, hda]; omega)]; exact valid_3_b3 k1 k2 k3 k4 (Lib.hid hm) g0 g1 g2 g3 w
  by_cases g4 : 0 ≤ k3
  rotate_left
  · rw [codeOf_103 _ _ _ _ _ nk (by unfold InB; rw [hm, hmo, hrg, hda]; omega)]; exact valid_3_b4 k1 k2 k3 k4 (Lib.hid hm) g0 g1 g2 g3 g4 w
  by_cases g5 : k3 ≤ 7
  rotate_left
  · rw [codeOf_103 _ _ _ _ _ nk (by unfold InB; rw [hm, hmo, hrg, hda]; omega)]; exact valid_3_b5 k1 k2 k3 k4 (Lib.hid hm) g0 g1 g2 g3 g4 g5 w
  by_cases g6 : k4 ≤ 0
  rotate_left
  · rw [codeOf_103 _ _ _ _ _ nk (by unfold InB; rw [hm, hmo, hrg, hda]; omega)]; exact valid_3_b6 k1 k2 k3 k4 (Lib.hid hm) g0 g1 g2 g3 g4 g5 g6 w
  rw [codeOf_0 _ _ _ _ _ nk (by unfold InB; rw [hm, hmo, hrg, hda]; omega)]; exact valid_3_ok k1 k2 k3 k4 (Lib.hid hm) g0 g1 g2 g3 g4 g5 g6 w
theorem valid_5 (k1 k2 k3 k4 : Int) (gu : k4 ≤ 4294967295) (w : World) : Calls Tryz.prog 38 #[Value.agg #[.int .i64 5, .int .i64 k1, .int .i64 k2, .int .i64 k3, .int .u32 k4]] w fun e w' => e = .returned (.int .i64 (codeOf 5 k1 k2 k3 k4)) ∧ Below w.heap.size w w' := by
  have hm : manyOf 5 = 32 := rfl
  have nk : ¬ ((5 : Int) < 0 ∨ 14 < (5 : Int)) := by omega
  have hmo : mostOf 5 = 1048575 := rfl
  have hrg : rightsOf 5 = 0 := rfl
  have hda : dataOf 5 = 536870911 := rfl
  by_cases g0 : 0 ≤ k1
  rotate_left
  · rw [codeOf_103 _ _ _ _ _ nk (by unfold InB; rw [hm, hmo, hrg, hda]; omega)]; exact valid_5_b0 k1 k2 k3 k4 (Lib.hid hm)  g0 w
  by_cases g1 : k1 < 32
  rotate_left
  · rw [codeOf_103 _ _ _ _ _ nk (by unfold InB; rw [hm, hmo, hrg, hda]; omega)]; exact valid_5_b1 k1 k2 k3 k4 (Lib.hid hm) g0 g1 w
  by_cases g2 : 0 ≤ k2
  rotate_left
  · rw [codeOf_103 _ _ _ _ _ nk (by unfold InB; rw [hm, hmo, hrg, hda]; omega)]; exact valid_5_b2 k1 k2 k3 k4 (Lib.hid hm) g0 g1 g2 w
  by_cases g3 : k2 ≤ 1048575
  rotate_left
  · rw [codeOf_103 _ _ _ _ _ nk (by unfold InB; rw [hm, hmo, hrg, hda]; omega)]; exact valid_5_b3 k1 k2 k3 k4 (Lib.hid hm) g0 g1 g2 g3 w
  by_cases g4 : 0 ≤ k3
  rotate_left
  · rw [codeOf_103 _ _ _ _ _ nk (by unfold InB; rw [hm, hmo, hrg, hda]; omega)]; exact valid_5_b4 k1 k2 k3 k4 (Lib.hid hm) g0 g1 g2 g3 g4 w
  by_cases g5 : k3 ≤ 0
  rotate_left
  · rw [codeOf_103 _ _ _ _ _ nk (by unfold InB; rw [hm, hmo, hrg, hda]; omega)]; exact valid_5_b5 k1 k2 k3 k4 (Lib.hid hm) g0 g1 g2 g3 g4 g5 w
  by_cases g6 : k4 ≤ 536870911
  rotate_left
  · rw [codeOf_103 _ _ _ _ _ nk (by unfold InB; rw [hm, hmo, hrg, hda]; omega)]; exact valid_5_b6 k1 k2 k3 k4 (Lib.hid hm) g0 g1 g2 g3 g4 g5 g6 w
  rw [codeOf_0 _ _ _ _ _ nk (by unfold InB; rw [hm, hmo, hrg, hda]; omega)]; exact valid_5_ok k1 k2 k3 k4 (Lib.hid hm) g0 g1 g2 g3 g4 g5 g6 w
theorem valid_6 (k1 k2 k3 k4 : Int) (gu : k4 ≤ 4294967295) (w : World) : Calls Tryz.prog 38 #[Value.agg #[.int .i64 6, .int .i64 k1, .int .i64 k2, .int .i64 k3, .int .u32 k4]] w fun e w' => e = .returned (.int .i64 (codeOf 6 k1 k2 k3 k4)) ∧ Below w.heap.size w w' := by
  have hm : manyOf 6 = 32 := rfl
  have nk : ¬ ((6 : Int) < 0 ∨ 14 < (6 : Int)) := by omega
  have hmo : mostOf 6 = 1048575 := rfl
  have hrg : rightsOf 6 = 0 := rfl
  have hda : dataOf 6 = 536870911 := rfl
  by_cases g0 : 0 ≤ k1
  rotate_left
  · rw [codeOf_103 _ _ _ _ _ nk (by unfold InB; rw [hm, hmo, hrg, hda]; omega)]; exact valid_6_b0 k1 k2 k3 k4 (Lib.hid hm)  g0 w
  by_cases g1 : k1 < 32
  rotate_left
  · rw [codeOf_103 _ _ _ _ _ nk (by unfold InB; rw [hm, hmo, hrg, hda]; omega)]; exact valid_6_b1 k1 k2 k3 k4 (Lib.hid hm) g0 g1 w
  by_cases g2 : 0 ≤ k2
  rotate_left
  · rw [codeOf_103 _ _ _ _ _ nk (by unfold InB; rw [hm, hmo, hrg, hda]; omega)]; exact valid_6_b2 k1 k2 k3 k4 (Lib.hid hm) g0 g1 g2 w
  by_cases g3 : k2 ≤ 1048575
  rotate_left
  · rw [codeOf_103 _ _ _ _ _ nk (by unfold InB; rw [hm, hmo, hrg, hda]; omega)]; exact valid_6_b3 k1 k2 k3 k4 (Lib.hid hm) g0 g1 g2 g3 w
  by_cases g4 : 0 ≤ k3
  rotate_left
  · rw [codeOf_103 _ _ _ _ _ nk (by unfold InB; rw [hm, hmo, hrg, hda]; omega)]; exact valid_6_b4 k1 k2 k3 k4 (Lib.hid hm) g0 g1 g2 g3 g4 w
  by_cases g5 : k3 ≤ 0
  rotate_left
  · rw [codeOf_103 _ _ _ _ _ nk (by unfold InB; rw [hm, hmo, hrg, hda]; omega)]; exact valid_6_b5 k1 k2 k3 k4 (Lib.hid hm) g0 g1 g2 g3 g4 g5 w
  by_cases g6 : k4 ≤ 536870911
  rotate_left
  · rw [codeOf_103 _ _ _ _ _ nk (by unfold InB; rw [hm, hmo, hrg, hda]; omega)]; exact valid_6_b6 k1 k2 k3 k4 (Lib.hid hm) g0 g1 g2 g3 g4 g5 g6 w
  rw [codeOf_0 _ _ _ _ _ nk (by unfold InB; rw [hm, hmo, hrg, hda]; omega)]; exact valid_6_ok k1 k2 k3 k4 (Lib.hid hm) g0 g1 g2 g3 g4 g5 g6 w
theorem valid_D (k0 k1 k2 k3 k4 : Int) (h0 : 0 ≤ k0) (h14 : k0 ≤ 14) (h1 : ¬ k0 = 1) (h2 : ¬ k0 = 2) (h3 : ¬ k0 = 3) (h5 : ¬ k0 = 5) (h6 : ¬ k0 = 6) (hm1 : 1 < manyOf k0) (gu : k4 ≤ 4294967295) (w : World) : Calls Tryz.prog 38 #[Value.agg #[.int .i64 k0, .int .i64 k1, .int .i64 k2, .int .i64 k3, .int .u32 k4]] w fun e w' => e = .returned (.int .i64 (codeOf k0 k1 k2 k3 k4)) ∧ Below w.heap.size w w' := by
  have hm : manyOf k0 = (manyOf k0) := rfl
  have nk : ¬ ((k0 : Int) < 0 ∨ 14 < (k0 : Int)) := by omega
  have hmo : mostOf k0 = 1048575 := by unfold mostOf; rw [if_pos hm1]
  have hrg : rightsOf k0 = 0 := by unfold rightsOf; rw [if_neg (by omega)]
  have hda : dataOf k0 = 0 := by unfold dataOf; rw [if_neg h1, if_neg h2, if_neg (by omega)]
  by_cases g0 : 0 ≤ k1
  rotate_left
  · rw [codeOf_103 _ _ _ _ _ nk (by unfold InB; rw [hm, hmo, hrg, hda]; omega)]; exact valid_D_b0 k0 k1 k2 k3 k4 (manyOf k0) h0 h14 h1 h2 h3 h5 h6 (Lib.hid hm) hm1  g0 w
  by_cases g1 : k1 < (manyOf k0)
  rotate_left
  · rw [codeOf_103 _ _ _ _ _ nk (by unfold InB; rw [hm, hmo, hrg, hda]; omega)]; exact valid_D_b1 k0 k1 k2 k3 k4 (manyOf k0) h0 h14 h1 h2 h3 h5 h6 (Lib.hid hm) hm1 g0 g1 w
  by_cases g2 : 0 ≤ k2
  rotate_left
  · rw [codeOf_103 _ _ _ _ _ nk (by unfold InB; rw [hm, hmo, hrg, hda]; omega)]; exact valid_D_b2 k0 k1 k2 k3 k4 (manyOf k0) h0 h14 h1 h2 h3 h5 h6 (Lib.hid hm) hm1 g0 g1 g2 w
  by_cases g3 : k2 ≤ 1048575
  rotate_left
  · rw [codeOf_103 _ _ _ _ _ nk (by unfold InB; rw [hm, hmo, hrg, hda]; omega)]; exact valid_D_b3 k0 k1 k2 k3 k4 (manyOf k0) h0 h14 h1 h2 h3 h5 h6 (Lib.hid hm) hm1 g0 g1 g2 g3 w
  by_cases g4 : 0 ≤ k3
  rotate_left
  · rw [codeOf_103 _ _ _ _ _ nk (by unfold InB; rw [hm, hmo, hrg, hda]; omega)]; exact valid_D_b4 k0 k1 k2 k3 k4 (manyOf k0) h0 h14 h1 h2 h3 h5 h6 (Lib.hid hm) hm1 g0 g1 g2 g3 g4 w
  by_cases g5 : k3 ≤ 0
  rotate_left
  · rw [codeOf_103 _ _ _ _ _ nk (by unfold InB; rw [hm, hmo, hrg, hda]; omega)]; exact valid_D_b5 k0 k1 k2 k3 k4 (manyOf k0) h0 h14 h1 h2 h3 h5 h6 (Lib.hid hm) hm1 g0 g1 g2 g3 g4 g5 w
  by_cases g6 : k4 ≤ 0
  rotate_left
  · rw [codeOf_103 _ _ _ _ _ nk (by unfold InB; rw [hm, hmo, hrg, hda]; omega)]; exact valid_D_b6 k0 k1 k2 k3 k4 (manyOf k0) h0 h14 h1 h2 h3 h5 h6 (Lib.hid hm) hm1 g0 g1 g2 g3 g4 g5 g6 w
  rw [codeOf_0 _ _ _ _ _ nk (by unfold InB; rw [hm, hmo, hrg, hda]; omega)]; exact valid_D_ok k0 k1 k2 k3 k4 (manyOf k0) h0 h14 h1 h2 h3 h5 h6 (Lib.hid hm) hm1 g0 g1 g2 g3 g4 g5 g6 w
theorem valid_F (k0 k1 k2 k3 k4 : Int) (h0 : 0 ≤ k0) (h14 : k0 ≤ 14) (h1 : ¬ k0 = 1) (h2 : ¬ k0 = 2) (h3 : ¬ k0 = 3) (h5 : ¬ k0 = 5) (h6 : ¬ k0 = 6) (hm0 : manyOf k0 = 1) (gu : k4 ≤ 4294967295) (w : World) : Calls Tryz.prog 38 #[Value.agg #[.int .i64 k0, .int .i64 k1, .int .i64 k2, .int .i64 k3, .int .u32 k4]] w fun e w' => e = .returned (.int .i64 (codeOf k0 k1 k2 k3 k4)) ∧ Below w.heap.size w w' := by
  have hm : manyOf k0 = 1 := hm0
  have nk : ¬ ((k0 : Int) < 0 ∨ 14 < (k0 : Int)) := by omega
  have hmo : mostOf k0 = 0 := by unfold mostOf; rw [hm0]; rfl
  have hrg : rightsOf k0 = 0 := by unfold rightsOf; rw [if_neg (by omega)]
  have hda : dataOf k0 = 0 := by unfold dataOf; rw [if_neg h1, if_neg h2, if_neg (by omega)]
  by_cases g0 : 0 ≤ k1
  rotate_left
  · rw [codeOf_103 _ _ _ _ _ nk (by unfold InB; rw [hm, hmo, hrg, hda]; omega)]; exact valid_F_b0 k0 k1 k2 k3 k4 h0 h14 h1 h2 h3 h5 h6 (Lib.hid hm)  g0 w
  by_cases g1 : k1 < 1
  rotate_left
  · rw [codeOf_103 _ _ _ _ _ nk (by unfold InB; rw [hm, hmo, hrg, hda]; omega)]; exact valid_F_b1 k0 k1 k2 k3 k4 h0 h14 h1 h2 h3 h5 h6 (Lib.hid hm) g0 g1 w
  by_cases g2 : 0 ≤ k2
  rotate_left
  · rw [codeOf_103 _ _ _ _ _ nk (by unfold InB; rw [hm, hmo, hrg, hda]; omega)]; exact valid_F_b2 k0 k1 k2 k3 k4 h0 h14 h1 h2 h3 h5 h6 (Lib.hid hm) g0 g1 g2 w
  by_cases g3 : k2 ≤ 0
  rotate_left
  · rw [codeOf_103 _ _ _ _ _ nk (by unfold InB; rw [hm, hmo, hrg, hda]; omega)]; exact valid_F_b3 k0 k1 k2 k3 k4 h0 h14 h1 h2 h3 h5 h6 (Lib.hid hm) g0 g1 g2 g3 w
  by_cases g4 : 0 ≤ k3
  rotate_left
  · rw [codeOf_103 _ _ _ _ _ nk (by unfold InB; rw [hm, hmo, hrg, hda]; omega)]; exact valid_F_b4 k0 k1 k2 k3 k4 h0 h14 h1 h2 h3 h5 h6 (Lib.hid hm) g0 g1 g2 g3 g4 w
  by_cases g5 : k3 ≤ 0
  rotate_left
  · rw [codeOf_103 _ _ _ _ _ nk (by unfold InB; rw [hm, hmo, hrg, hda]; omega)]; exact valid_F_b5 k0 k1 k2 k3 k4 h0 h14 h1 h2 h3 h5 h6 (Lib.hid hm) g0 g1 g2 g3 g4 g5 w
  by_cases g6 : k4 ≤ 0
  rotate_left
  · rw [codeOf_103 _ _ _ _ _ nk (by unfold InB; rw [hm, hmo, hrg, hda]; omega)]; exact valid_F_b6 k0 k1 k2 k3 k4 h0 h14 h1 h2 h3 h5 h6 (Lib.hid hm) g0 g1 g2 g3 g4 g5 g6 w
  rw [codeOf_0 _ _ _ _ _ nk (by unfold InB; rw [hm, hmo, hrg, hda]; omega)]; exact valid_F_ok k0 k1 k2 k3 k4 h0 h14 h1 h2 h3 h5 h6 (Lib.hid hm) g0 g1 g2 g3 g4 g5 g6 w
theorem valid_any (k0 k1 k2 k3 k4 : Int) (gu : k4 ≤ 4294967295) (w : World) : Calls Tryz.prog 38 #[(Value.agg #[.int .i64 k0, .int .i64 k1, .int .i64 k2, .int .i64 k3, .int .u32 k4])] w fun e w' => e = .returned (.int .i64 (codeOf k0 k1 k2 k3 k4)) ∧ Below w.heap.size w w' := by
  by_cases hk : k0 < 0
  · rw [codeOf_102 _ _ _ _ _ (.inl hk)]; exact valid_kind0 k0 k1 k2 k3 k4 hk w
  by_cases hk' : 14 < k0
  · rw [codeOf_102 _ _ _ _ _ (.inr hk')]; exact valid_kind1 k0 k1 k2 k3 k4 hk' w
  by_cases h1 : k0 = 1
  · subst h1; exact valid_1 k1 k2 k3 k4 gu w
  by_cases h2 : k0 = 2
  · subst h2; exact valid_2 k1 k2 k3 k4 gu w
  by_cases h3 : k0 = 3
  · subst h3; exact valid_3 k1 k2 k3 k4 gu w
  by_cases h5 : k0 = 5
  · subst h5; exact valid_5 k1 k2 k3 k4 gu w
  by_cases h6 : k0 = 6
  · subst h6; exact valid_6 k1 k2 k3 k4 gu w
  by_cases hD : k0 = 4 ∨ k0 = 7 ∨ k0 = 8 ∨ k0 = 9 ∨ k0 = 10
  · exact valid_D k0 k1 k2 k3 k4 (by omega) (by omega) h1 h2 h3 h5 h6 (by rcases hD with rfl | rfl | rfl | rfl | rfl <;> decide) gu w
  · exact valid_F k0 k1 k2 k3 k4 (by omega) (by omega) h1 h2 h3 h5 h6 (by unfold manyOf; rw [if_neg (by omega), if_neg (by omega), if_neg (by omega)]) gu w
theorem valid_is (k0 k1 k2 k3 k4 : Int) (c : Int) (h : Hid (codeOf k0 k1 k2 k3 k4 = c)) (gu : k4 ≤ 4294967295) (w : World) : Calls Tryz.prog 38 #[(Value.agg #[.int .i64 k0, .int .i64 k1, .int .i64 k2, .int .i64 k3, .int .u32 k4])] w fun e w' => e = .returned (.int .i64 c) ∧ Below w.heap.size w w' := by
  rw [← h.out]; exact valid_any k0 k1 k2 k3 k4 gu w
end Go.Proofs.YtncopdhhchmpeaaGreatDoor
namespace Go.Proofs.YtncopdhhchmpeaaGreatDoor
open Go.ChangeShapes Go.WideShapes Go.ChangeAt Go.RowKit
set_option linter.unusedVariables false
end Go.Proofs.YtncopdhhchmpeaaGreatDoor
namespace Go.Proofs.YtncopdhhchmpeaaGreatDoor
open Go.ChangeShapes Go.WideShapes Go.ChangeAt Go.RowKit
set_option linter.unusedVariables false
def andI (a b : Int) : Int := bits BinOp.and IntKind.i64 a b
def orI (a b : Int) : Int := bits BinOp.or IntKind.i64 a b
def In8 (x : Int) : Prop := 0 ≤ x ∧ x ≤ 7
theorem In8.fin {x : Int} (h : In8 x) : ∃ n : Fin 8, x = (n.val : Int) := by obtain ⟨h1, h2⟩ := h; exact ⟨⟨x.toNat, by omega⟩, by simp; omega⟩
theorem In8.of (n : Fin 8) : In8 (n.val : Int) := ⟨by omega, by have := n.isLt; omega⟩
theorem rights_in (k0 k1 k2 k3 k4 : Int) (h : codeOf k0 k1 k2 k3 k4 = 0) : In8 k3 := by
  unfold codeOf at h
  by_cases h1 : k0 < 0 ∨ 14 < k0
  · rw [if_pos h1] at h; omega
  rw [if_neg h1] at h
  by_cases h2 : InB k0 k1 k2 k3 k4
  · unfold InB at h2
    have : rightsOf k0 ≤ 7 := by unfold rightsOf; split <;> omega
    exact ⟨h2.2.2.2.2.1, by omega⟩
  · rw [if_neg h2] at h; omega
theorem code_cases (k0 k1 k2 k3 k4 : Int) : codeOf k0 k1 k2 k3 k4 = 0 ∨ codeOf k0 k1 k2 k3 k4 = 102 ∨ codeOf k0 k1 k2 k3 k4 = 103 := by
  unfold codeOf; split
  · exact .inr (.inl rfl)
  · split
    · exact .inl rfl
    · exact .inr (.inr rfl)
end Go.Proofs.YtncopdhhchmpeaaGreatDoor
namespace Go.Proofs.YtncopdhhchmpeaaGreatDoor
open Go.ChangeShapes Go.WideShapes Go.ChangeAt Go.RowKit
set_option linter.unusedVariables false
theorem rweaken_mem (k0 k1 k2 k3 k4 : Int) (r3 : Int) (h : k0 = 2 ∨ k0 = 3) (h3 : Hid (bits BinOp.or IntKind.i64 (bits BinOp.or IntKind.i64 k3 1) 4 = r3)) (w : World) :
    Calls Tryz.prog 36 #[(Value.agg #[.int .i64 k0, .int .i64 k1, .int .i64 k2, .int .i64 k3, .int .u32 k4])] w
      fun e w' => e = .returned (.agg #[.int .i64 k0, .int .i64 k1, .int .i64 k2, .int .i64 r3, .int .u32 k4]) ∧ Below w.heap.size w w' := by
  rw [← h3.out]
  rcases h with rfl | rfl
  all_goals
    go_enter Tryz.func36, Tryz.ntmps36
    go_wp2
    refine bodyPost_ret (v := .agg #[.int .i64 _, .int .i64 k1, .int .i64 k2, .int .i64 (bits BinOp.or IntKind.i64 (bits BinOp.or IntKind.i64 k3 1) 4), .int .u32 k4]) (by simp [results, Tryz.results36, go_sem]) rfl ⟨rfl, ((Below.refl _ _).alloc (Nat.le_refl _) _).alloc (by simp) _⟩
theorem rweaken_same (k0 k1 k2 k3 k4 : Int) (h : k0 = 0 ∨ k0 = 1 ∨ k0 = 12 ∨ k0 = 14) (w : World) :
    Calls Tryz.prog 36 #[(Value.agg #[.int .i64 k0, .int .i64 k1, .int .i64 k2, .int .i64 k3, .int .u32 k4])] w fun e w' => e = .returned (Value.agg #[.int .i64 k0, .int .i64 k1, .int .i64 k2, .int .i64 k3, .int .u32 k4]) ∧ Below w.heap.size w w' := by
  rcases h with rfl | rfl | rfl | rfl
  all_goals
    go_enter Tryz.func36, Tryz.ntmps36
    go_wp2
    refine bodyPost_ret (v := .agg #[.int .i64 _, .int .i64 k1, .int .i64 k2, .int .i64 k3, .int .u32 k4]) (by simp [results, Tryz.results36, go_sem]) rfl ⟨rfl, ((Below.refl _ _).alloc (Nat.le_refl _) _).alloc (by simp) _⟩
theorem rweaken_void (k0 k1 k2 k3 k4 : Int) (h0 : ¬ k0 = 0) (h1 : ¬ k0 = 1) (h2 : ¬ k0 = 2) (h3 : ¬ k0 = 3) (h12 : ¬ k0 = 12) (h14 : ¬ k0 = 14) (w : World) :
    Calls Tryz.prog 36 #[(Value.agg #[.int .i64 k0, .int .i64 k1, .int .i64 k2, .int .i64 k3, .int .u32 k4])] w
      fun e w' => e = .returned (.agg #[.int .i64 0, .int .i64 0, .int .i64 0, .int .i64 0, .int .u32 0]) ∧ Below w.heap.size w w' := by
  go_enter Tryz.func36, Tryz.ntmps36
  go_wp2
  refine bodyPost_ret (v := .agg #[.int .i64 0, .int .i64 0, .int .i64 0, .int .i64 0, .int .u32 0]) (by simp [results, Tryz.results36, go_sem]) rfl ⟨rfl, ((Below.refl _ _).alloc (Nat.le_refl _) _).alloc (by simp) _⟩
theorem or14_fin : ∀ n : Fin 8, orI (orI (n.val : Int) 1) 4 = orI (n.val : Int) 5 := by decide +kernel
theorem rweaken_any (k0 k1 k2 k3 k4 : Int) (r0 r1 r2 r3 r4 : Int) (h8 : In8 k3) (h : Hid (Wk [k0, k1, k2, k3, k4] [r0, r1, r2, r3, r4])) (w : World) :
    Calls Tryz.prog 36 #[(Value.agg #[.int .i64 k0, .int .i64 k1, .int .i64 k2, .int .i64 k3, .int .u32 k4])] w fun e w' => e = .returned (Value.agg #[.int .i64 r0, .int .i64 r1, .int .i64 r2, .int .i64 r3, .int .u32 r4]) ∧ Below w.heap.size w w' := by
  rcases h.out with ⟨hk, hr⟩ | ⟨hk, hr⟩ | ⟨hk, hr⟩
  · simp only [List.getD_cons_zero, List.getD_cons_succ, List.cons.injEq, and_true] at hk hr
    obtain ⟨rfl, rfl, rfl, rfl, rfl⟩ := hr
    exact rweaken_mem _ _ _ _ _ _ hk (Lib.hid (by obtain ⟨n, rfl⟩ := h8.fin; exact or14_fin n)) w
  · simp only [List.getD_cons_zero, List.getD_cons_succ, List.cons.injEq, and_true] at hk hr
    obtain ⟨rfl, rfl, rfl, rfl, rfl⟩ := hr
    exact rweaken_same _ _ _ _ _ hk w
  · simp only [List.getD_cons_zero, List.cons.injEq, and_true] at hk hr
    obtain ⟨rfl, rfl, rfl, rfl, rfl⟩ := hr
    exact rweaken_void _ _ _ _ _ hk.1 hk.2.1 hk.2.2.1 hk.2.2.2.1 hk.2.2.2.2.1 hk.2.2.2.2.2 w
theorem rwrites_mem (k0 k1 k2 k3 k4 : Int) (h : k0 = 2 ∨ k0 = 3) (w : World) :
    Calls Tryz.prog 41 #[(Value.agg #[.int .i64 k0, .int .i64 k1, .int .i64 k2, .int .i64 k3, .int .u32 k4])] w fun e w' => e = .returned (.bool (bits BinOp.and IntKind.i64 k3 5 == 0)) ∧ Below w.heap.size w w' := by
  rcases h with rfl | rfl
  all_goals
    go_enter Tryz.func41, Tryz.ntmps41
    go_wp2
    go_ret
    exact ⟨rfl, (Below.refl _ _).alloc (Nat.le_refl _) _⟩
theorem rwrites_no (k0 k1 k2 k3 k4 : Int) (h2 : ¬ k0 = 2) (h3 : ¬ k0 = 3) (w : World) :
    Calls Tryz.prog 41 #[(Value.agg #[.int .i64 k0, .int .i64 k1, .int .i64 k2, .int .i64 k3, .int .u32 k4])] w fun e w' => e = .returned (.bool false) ∧ Below w.heap.size w w' := by
  have e2 : (k0 == 2) = false := by simpa using h2
  have e3 : (k0 == 3) = false := by simpa using h3
  go_enter Tryz.func41, Tryz.ntmps41
  go_wp2
  go_ret
  exact ⟨rfl, (Below.refl _ _).alloc (Nat.le_refl _) _⟩
theorem rsensory_any (k0 k1 k2 k3 k4 : Int) (r0 r1 r2 r3 r4 : Int) (t : Bool) (h8 : In8 k3) (h : Hid (Wk [k0, k1, k2, k3, k4] [r0, r1, r2, r3, r4])) (ht : Hid (sameB r0 r1 r2 r3 r4 k0 k1 k2 k3 k4 = t)) (w : World) :
    Calls Tryz.prog 40 #[(Value.agg #[.int .i64 k0, .int .i64 k1, .int .i64 k2, .int .i64 k3, .int .u32 k4])] w fun e w' => e = .returned (.bool t) ∧ Below w.heap.size w w' := by
  have st := start1 w k0 k1 k2 k3 k4
  have ST := Lib.hid st
  clear st
  go_enter Tryz.func40, Tryz.ntmps40
  go_wp2
  go_region_held3 (fun w' => Below w.heap.size w w' ∧ w.heap.size < w'.heap.size ∧ w'.cell? ⟨w.heap.size, 0, none⟩ = some (.int .i64 k0) ∧ w'.cell? ⟨w.heap.size, 1, none⟩ = some (.int .i64 k1) ∧ w'.cell? ⟨w.heap.size, 2, none⟩ = some (.int .i64 k2) ∧ w'.cell? ⟨w.heap.size, 3, none⟩ = some (.int .i64 k3) ∧ w'.cell? ⟨w.heap.size, 4, none⟩ = some (.int .u32 k4)) (first | exact ST.out | exact keep1 _ _ _ _ _ (by assumption) hb)
    (first | (go_at_call 36; refine (rweaken_any _ _ _ _ _ _ _ _ _ _ h8 h _).mono ?_; rintro e w' ⟨rfl, hb⟩) | (go_at_call 22; refine (same_is _ _ _ _ _ _ _ _ _ _ t ht _).mono ?_; rintro e w' ⟨rfl, hb⟩))
  go_wp2
  go_ret
  refine ⟨rfl, ?_⟩
  apply And.left
  assumption
theorem sensory_no (k0 k1 k2 k3 k4 : Int) (r0 r1 r2 r3 r4 : Int) (h : Hid (Wk [k0, k1, k2, k3, k4] [r0, r1, r2, r3, r4])) (ht : (k0 == r0) = false ∨ (k0 = r0 ∧ k1 = r1 ∧ k2 = r2 ∧ (k3 == r3) = false)) (w : World) :
    Calls Tryz.prog 164 #[(Value.agg #[.int .i64 k0, .int .i64 k1, .int .i64 k2, .int .i64 k3, .int .u32 k4])] w fun e w' => e = .returned (.bool false) ∧ Below w.heap.size w w' := by
  have st := start1 w k0 k1 k2 k3 k4
  have ST := Lib.hid st
  clear st
  rcases ht with ht | ⟨rfl, rfl, rfl, ht⟩
  all_goals
    go_enter Tryz.func164, Tryz.ntmps164
    go_wp2
    go_region_held3 (fun w' => Below w.heap.size w w' ∧ w.heap.size < w'.heap.size ∧ w'.cell? ⟨w.heap.size, 0, none⟩ = some (.int .i64 k0) ∧ w'.cell? ⟨w.heap.size, 1, none⟩ = some (.int .i64 k1) ∧ w'.cell? ⟨w.heap.size, 2, none⟩ = some (.int .i64 k2) ∧ w'.cell? ⟨w.heap.size, 3, none⟩ = some (.int .i64 k3) ∧ w'.cell? ⟨w.heap.size, 4, none⟩ = some (.int .u32 k4)) (first | exact ST.out | exact keep1 _ _ _ _ _ (by assumption) hb)
      (first | (go_at_call 166; refine (weaken_any _ _ _ _ _ _ _ _ _ _ h _).mono ?_; rintro e w' ⟨rfl, hb⟩))
    go_wp2
    go_ret
    refine ⟨rfl, ?_⟩
    apply And.left
    assumption
/-- Does a give no more than b? -/
def withinB (a0 a1 a2 a3 a4 b0 b1 b2 b3 b4 : Int) : Bool := (bits BinOp.and IntKind.i64 a3 b3 == b3) && sameB a0 a1 a2 0 a4 b0 b1 b2 0 b4
theorem RowI.below {W w' : World} {a : Option Addr} {len : Nat} {xs : List Int} (h : RowI W a len xs) (hb : Below W.heap.size W w') : RowI w' a len xs := by
  obtain ⟨h1, h2⟩ := h
  refine ⟨h1, ?_⟩
  rcases h2 with h2 | ⟨b, off, rfl, hl, hc⟩
  · exact .inl h2
  · exact .inr ⟨b, off, rfl, Nat.lt_of_lt_of_le hl hb.size, fun i hi => (hb.cell (p := ⟨b, off + i, none⟩) hl).trans (hc i hi)⟩
end Go.Proofs.YtncopdhhchmpeaaGreatDoor
namespace Go.Proofs.YtncopdhhchmpeaaGreatDoor
open Go.ChangeShapes Go.WideShapes Go.ChangeAt Go.RowKit
set_option linter.unusedVariables false
theorem many_places (k : Int) : manyOf k = if placesOf k = 0 then 1 else placesOf k := by
  unfold manyOf placesOf
  repeat' split
  all_goals first | rfl | omega | (exfalso; simp_all)
theorem hid_many (k : Int) : hidOf k = manyOf k - 1 := by
  unfold hidOf
  rw [many_places]
  have := placesOf_ge k
  split <;> split <;> omega
theorem hver_most (k : Int) : hverOf k = mostOf k := by
  unfold hverOf mostOf
  rw [many_places]
  have := placesOf_ge k
  have p1 : placesOf k ≠ 1 := by unfold placesOf; repeat' split
                                 all_goals omega
  by_cases h : placesOf k = 0
  · rw [if_pos h, if_neg (by omega), if_neg (by omega)]
  · rw [if_neg h, if_pos (by omega), if_pos (by omega)]
theorem hr_rights (k : Int) : hrOf k = rightsOf k := by
  unfold hrOf rightsOf
  by_cases h : k = 2 ∨ k = 3
  · rw [if_pos h, if_pos (by simpa using h)]
  · rw [if_neg h, if_neg (by simpa using h)]
theorem data_most (k : Int) : dataMost k = dataOf k := by
  unfold dataMost dataOf
  repeat' split
  all_goals first | rfl | omega
theorem right_in (k0 k1 k2 k3 k4 : Int) : rightB k0 k1 k2 k3 k4 = decide ((0 ≤ k0 ∧ k0 ≤ 14) ∧ InB k0 k1 k2 k3 k4) := by
  unfold rightB InB
  rw [hid_many, hver_most, hr_rights, data_most]
  rw [Bool.eq_iff_iff]
  simp only [wB, Bool.and_eq_true, decide_eq_true_eq]
  omega
theorem right_of_code {k0 k1 k2 k3 k4 : Int} (h : codeOf k0 k1 k2 k3 k4 = 0) : rightB k0 k1 k2 k3 k4 = true := by
  rw [right_in, decide_eq_true_iff]
  unfold codeOf at h
  split at h
  · omega
  · split at h
    · exact ⟨by omega, by assumption⟩
    · omega
end Go.Proofs.YtncopdhhchmpeaaGreatDoor
namespace Go.Proofs.YtncopdhhchmpeaaGreatDoor
open Go.ChangeShapes Go.WideShapes Go.ChangeAt Go.RowKit
set_option linter.unusedVariables false
set_option linter.unusedSimpArgs false
def cnt01 (b : Bool) : Int := if b = true then 1 else 0
theorem count_is (b : Bool) (w : World) : Calls Tryz.prog 163 #[.bool b] w fun e w' => e = .returned (.int .u32 (cnt01 b)) ∧ w = w' := by
  cases b
  · go_enter Tryz.func163, Tryz.ntmps163
    go_wp2_with fail
    go_ret
    exact ⟨rfl, rfl⟩
  · go_enter Tryz.func163, Tryz.ntmps163
    go_wp2_with fail
    go_ret
    exact ⟨rfl, rfl⟩
theorem note_put3 {w : World} {b : Nat} (h : w.rangeAt b 0 [.int .u32 0, .int .u32 0, .int .u32 0, .int .u32 0, .int .i64 0, .int .i64 0, .int .i64 0, .int .i64 0, .int .u32 0, .int .i64 0, .int .i64 0, .int .i64 0, .int .i64 0, .int .u32 0, .int .i64 0, .int .i64 0, .int .i64 0, .int .i64 0, .int .u32 0]) (x y z : Int) : (w.setCells b 1 [.int .u32 x, .int .u32 y, .int .u32 z]).rangeAt b 0 [.int .u32 0, .int .u32 x, .int .u32 y, .int .u32 z, .int .i64 0, .int .i64 0, .int .i64 0, .int .i64 0, .int .u32 0, .int .i64 0, .int .i64 0, .int .i64 0, .int .i64 0, .int .u32 0, .int .i64 0, .int .i64 0, .int .i64 0, .int .i64 0, .int .u32 0] :=
  range_set (range_set (range_set h 1 (.int .u32 x)) (1 + 1) (.int .u32 y)) (1 + 1 + 1) (.int .u32 z)
set_option maxRecDepth 100000 in
set_option maxHeartbeats 1000000 in
theorem owords_three (x y z : Int) (g c : Nat) (w : World) (hx : w.rangeAt g 0 [.int .u32 x, .int .u32 y, .int .u32 z]) : Calls Tryz.prog 133 #[.slice (some ⟨g, 0, none⟩) 3 c] w fun e w' => e = .returned (Value.agg #[.int .u32 0, .int .u32 x, .int .u32 y, .int .u32 z, .int .i64 0, .int .i64 0, .int .i64 0, .int .i64 0, .int .u32 0, .int .i64 0, .int .i64 0, .int .i64 0, .int .i64 0, .int .u32 0, .int .i64 0, .int .i64 0, .int .i64 0, .int .i64 0, .int .u32 0]) ∧ Below w.heap.size w w' := by
  have HG := Lib.hid (⟨cell_lt (CallC.cell hx 0 _ rfl), hx⟩ : g < w.heap.size ∧ w.rangeAt g 0 [.int .u32 x, .int .u32 y, .int .u32 z])
  clear hx
  go_enter Tryz.func133, Tryz.ntmps133
  go_upto_region 1 with fail
  generalize hA : World.alloc w _ = wA
  have HA : Hid (Below w.heap.size w wA ∧ World.there wA w.heap.size 0 19 ∧ w.heap.size < wA.heap.size) := Lib.hid (by rw [← hA]; exact ⟨(Below.refl _ _).alloc (Nat.le_refl _) _, nthere_new _ _ _ (by rfl) _, by simp⟩)
  clear hA
  go_upto_region 2 with (first
    | (go_at_call 124; (with_reducible refine (ofails_is 0 (by decide) (by decide) _).mono ?_); rintro e w2 ⟨rfl, hb⟩; have HB2 := Lib.hid hb; clear hb)
    | (refine wpList_store_mid (by rfl) _ _ _ (by rfl) w2.heap.size 0 ([.int .u32 0, .int .u32 0, .int .u32 0, .int .u32 0, .int .i64 0, .int .i64 0, .int .i64 0, .int .i64 0, .int .u32 0, .int .i64 0, .int .i64 0, .int .i64 0, .int .i64 0, .int .u32 0, .int .i64 0, .int .i64 0, .int .i64 0, .int .i64 0, .int .u32 0] : List Value).toArray (by rfl) (by rfl) (nthere_new _ _ 19 (by rfl) _) infoNote (note_one _ _ _ _ _ _ _ _ _ _ _ _ _ _ _ _ _ _ _) ?_))
  generalize hS : World.setCells _ w2.heap.size 0 _ = w3
  obtain ⟨nb, hnb⟩ : ∃ nb, nb = w2.heap.size := ⟨_, rfl⟩
  have HS : Hid (Below wA.heap.size wA w3 ∧ w3.rangeAt nb 0 [.int .u32 0, .int .u32 0, .int .u32 0, .int .u32 0, .int .i64 0, .int .i64 0, .int .i64 0, .int .i64 0, .int .u32 0, .int .i64 0, .int .i64 0, .int .i64 0, .int .i64 0, .int .u32 0, .int .i64 0, .int .i64 0, .int .i64 0, .int .i64 0, .int .u32 0] ∧ World.there w3 nb 0 19 ∧ wA.heap.size ≤ nb) := Lib.hid (by rw [← hS, hnb]; exact ⟨nbelow_cells (HB2.out.alloc HB2.out.size _) HB2.out.size _ _, World.rangeAt_setCells_same _ _ 0 [.int .u32 0, .int .u32 0, .int .u32 0, .int .u32 0, .int .i64 0, .int .i64 0, .int .i64 0, .int .i64 0, .int .u32 0, .int .i64 0, .int .i64 0, .int .i64 0, .int .i64 0, .int .u32 0, .int .i64 0, .int .i64 0, .int .i64 0, .int .i64 0, .int .u32 0] (nthere_new _ _ 19 (by rfl) _), World.there_setCells (nthere_new _ _ 19 (by rfl) _) _ _ _, HB2.out.size⟩)
  rw [← hnb]
  clear hS hnb
  have hsrc : ∀ j v, ([.int .u32 x, .int .u32 y, .int .u32 z] : List Value)[j]? = some v → w3.cell? ((⟨g, 0, none⟩ : Addr).add j) = some v := fun j v hv => by
    have e1 := HS.out.1.cell (p := ⟨g, 0 + j, none⟩) (Nat.lt_trans HG.out.1 HA.out.2.2)
    have e2 := HA.out.1.cell (p := ⟨g, 0 + j, none⟩) HG.out.1
    have e3 := e1.trans (e2.trans (HG.out.2 j v hv))
    by_cases hj : j = 0
    · subst hj
      simpa [Addr.add] using e3
    · simpa [Addr.add, hj] using e3
  have hrun := run_copy_cells (P := Tryz.prog) w3 36 36 3 40 nb 1 3 3 ⟨g, 0, none⟩ 3 c [.int .u32 x, .int .u32 y, .int .u32 z] Tryz.underlying36 (by kernel_rfl) rfl hsrc (fun j hj => by have h := (HS.out.2.2.1 (1 + j) (by simp at hj; omega)).1; rw [Nat.zero_add] at h; exact h) (fun j hj => by have h := (HS.out.2.2.1 (1 + j) (by simp at hj; omega)).2; rw [Nat.zero_add] at h; exact h) (by simp [Value.oneCell'])
  go_upto_region 3 with fail
  clear hrun hsrc
  generalize hS : World.setCells w3 _ _ _ = w4
  have HS4 : Hid (Below wA.heap.size wA w4 ∧ w4.rangeAt nb 0 [.int .u32 0, .int .u32 x, .int .u32 y, .int .u32 z, .int .i64 0, .int .i64 0, .int .i64 0, .int .i64 0, .int .u32 0, .int .i64 0, .int .i64 0, .int .i64 0, .int .i64 0, .int .u32 0, .int .i64 0, .int .i64 0, .int .i64 0, .int .i64 0, .int .u32 0]) := Lib.hid (by rw [← hS]; exact ⟨nbelow_cells HS.out.1 HS.out.2.2.2 _ _, note_put3 HS.out.2.1 x y z⟩)
  clear hS
  have HT4 : Hid (World.there w4 w.heap.size 0 19 ∧ Below w.heap.size w w4) := Lib.hid ⟨nthere_below HA.out.2.1 HS4.out.1 HA.out.2.2, HA.out.1.trans (HS4.out.1.mono (Nat.le_of_lt HA.out.2.2))⟩
  go_wp2_with (first
    | (refine wpList_load_mid (by rfl) _ _ (by rfl) nb 0 (by rfl) [.int .u32 0, .int .u32 x, .int .u32 y, .int .u32 z, .int .i64 0, .int .i64 0, .int .i64 0, .int .i64 0, .int .u32 0, .int .i64 0, .int .i64 0, .int .i64 0, .int .i64 0, .int .u32 0, .int .i64 0, .int .i64 0, .int .i64 0, .int .i64 0, .int .u32 0] _ HS4.out.2 Tryz.underlying64 rfl infoNote ?_)
    | (refine wpList_store_mid (by rfl) _ _ _ (by rfl) w.heap.size 0 ([.int .u32 0, .int .u32 x, .int .u32 y, .int .u32 z, .int .i64 0, .int .i64 0, .int .i64 0, .int .i64 0, .int .u32 0, .int .i64 0, .int .i64 0, .int .i64 0, .int .i64 0, .int .u32 0, .int .i64 0, .int .i64 0, .int .i64 0, .int .i64 0, .int .u32 0] : List Value).toArray (by rfl) (by rfl) HT4.out.1 infoNote (note_one _ _ _ _ _ _ _ _ _ _ _ _ _ _ _ _ _ _ _) ?_))
  generalize hS : World.setCells w4 _ _ _ = w5
  have H5 : Hid (Below w.heap.size w w5 ∧ w5.rangeAt w.heap.size 0 [.int .u32 0, .int .u32 x, .int .u32 y, .int .u32 z, .int .i64 0, .int .i64 0, .int .i64 0, .int .i64 0, .int .u32 0, .int .i64 0, .int .i64 0, .int .i64 0, .int .i64 0, .int .u32 0, .int .i64 0, .int .i64 0, .int .i64 0, .int .i64 0, .int .u32 0]) := Lib.hid (by rw [← hS]; exact ⟨nbelow_cells HT4.out.2 (Nat.le_refl _) _ _, World.rangeAt_setCells_same _ _ 0 [.int .u32 0, .int .u32 x, .int .u32 y, .int .u32 z, .int .i64 0, .int .i64 0, .int .i64 0, .int .i64 0, .int .u32 0, .int .i64 0, .int .i64 0, .int .i64 0, .int .i64 0, .int .u32 0, .int .i64 0, .int .i64 0, .int .i64 0, .int .i64 0, .int .u32 0] HT4.out.1⟩)
  have hld := nload rfl H5.out.2
  refine bodyPost_ret (v := (Value.agg #[.int .u32 0, .int .u32 x, .int .u32 y, .int .u32 z, .int .i64 0, .int .i64 0, .int .i64 0, .int .i64 0, .int .u32 0, .int .i64 0, .int .i64 0, .int .i64 0, .int .i64 0, .int .u32 0, .int .i64 0, .int .i64 0, .int .i64 0, .int .i64 0, .int .u32 0])) (by simp [results, Tryz.results133, Act.put, asAddr, hld]) rfl ⟨rfl, H5.out.1⟩
/-- The cells of a call, with two keys of its note. -/
structure CallJ (cs : List Value) (s : Nat) (o : Int) (m0 m1 m2 m3 m4 n0 n1 n2 n3 n4 : Int) : Prop where
  len : cs.length = 25
  c6 : cs[6]? = some (.int .u32 o)
  a0 : cs[10]? = some (.int .i64 m0)
  a1 : cs[11]? = some (.int .i64 m1)
  a2 : cs[12]? = some (.int .i64 m2)
  a3 : cs[13]? = some (.int .i64 m3)
  a4 : cs[14]? = some (.int .u32 m4)
  b0 : cs[15]? = some (.int .i64 n0)
  b1 : cs[16]? = some (.int .i64 n1)
  b2 : cs[17]? = some (.int .i64 n2)
  b3 : cs[18]? = some (.int .i64 n3)
  b4 : cs[19]? = some (.int .u32 n4)
theorem c25_j (s : Nat) (k0 k1 k2 k3 k4 : Int) (o a b c : Int) (m0 m1 m2 m3 m4 : Int) (n0 n1 n2 n3 n4 : Int) (p0 p1 p2 p3 p4 : Int) : CallJ ([.pointer (some ⟨s, 0, none⟩), .int .i64 k0, .int .i64 k1, .int .i64 k2, .int .i64 k3, .int .u32 k4, .int .u32 o, .int .u32 a, .int .u32 b, .int .u32 c, .int .i64 m0, .int .i64 m1, .int .i64 m2, .int .i64 m3, .int .u32 m4, .int .i64 n0, .int .i64 n1, .int .i64 n2, .int .i64 n3, .int .u32 n4, .int .i64 p0, .int .i64 p1, .int .i64 p2, .int .i64 p3, .int .u32 p4] : List Value) s o m0 m1 m2 m3 m4 n0 n1 n2 n3 n4 := ⟨rfl, rfl, rfl, rfl, rfl, rfl, rfl, rfl, rfl, rfl, rfl, rfl⟩
section
variable {cs : List Value} {s : Nat} {o m0 m1 m2 m3 m4 n0 n1 n2 n3 n4 : Int}
set_option maxRecDepth 100000 in
set_option maxHeartbeats 1000000 in
theorem osent_is (hc : Hid (CallJ cs s o m0 m1 m2 m3 m4 n0 n1 n2 n3 n4)) (w : World) : Calls Tryz.prog 139 #[.agg cs.toArray] w fun e w' => e = .returned (Value.agg #[.int .i64 m0, .int .i64 m1, .int .i64 m2, .int .i64 m3, .int .u32 m4]) ∧ Below w.heap.size w w' := by
  go_enter Tryz.func139, Tryz.ntmps139
  go_upto_region 1 with fail
  generalize hA : World.alloc w _ = wK
  have HK : Hid (Below w.heap.size w wK ∧ wK.rangeAt w.heap.size 0 cs ∧ wK.heap.size = w.heap.size + 1) := Lib.hid (by rw [← hA]; exact ⟨(Below.refl _ _).alloc (Nat.le_refl _) _, cbox _ _ _, by simp⟩)
  clear hA
  generalize hA : World.alloc wK _ = wA
  obtain ⟨R, hR⟩ : ∃ R, R = w.heap.size + 1 := ⟨_, rfl⟩
  have HA : Hid (Below w.heap.size w wA ∧ wA.rangeAt w.heap.size 0 cs ∧ KeyC wA R 0 0 0 0 0 ∧ w.heap.size ≤ R) := Lib.hid (by rw [← hA, hR, ← HK.out.2.2]; exact ⟨HK.out.1.alloc HK.out.1.size _, range_below HK.out.2.1 ((Below.refl _ _).alloc (Nat.le_refl _) _) (by have := HK.out.2.2; omega), KeyC.new _ _ _ _ _ _ _, HK.out.1.size⟩)
  rw [← hR]
  clear hA hR
  have p0 := CallC.cell HA.out.2.1 10 _ hc.out.a0; have p1 := CallC.cell HA.out.2.1 11 _ hc.out.a1; have p2 := CallC.cell HA.out.2.1 12 _ hc.out.a2; have p3 := CallC.cell HA.out.2.1 13 _ hc.out.a3; have p4 := CallC.cell HA.out.2.1 14 _ hc.out.a4
  have z0 := HA.out.2.2.1.c0; have z1 := HA.out.2.2.1.c1; have z2 := HA.out.2.2.1.c2; have z3 := HA.out.2.2.1.c3; have z4 := HA.out.2.2.1.c4; have f0 := HA.out.2.2.1.fr 0; have f1 := HA.out.2.2.1.fr 1; have f2 := HA.out.2.2.1.fr 2; have f3 := HA.out.2.2.1.fr 3; have f4 := HA.out.2.2.1.fr 4
  go_wp2_with fail
  have t := HA.out.2.2.1.set m0 m1 m2 m3 m4
  have t0 := t.c0
  have t1 := t.c1
  have t2 := t.c2
  have t3 := t.c3
  have t4 := t.c4
  refine bodyPost_ret (v := (Value.agg #[.int .i64 m0, .int .i64 m1, .int .i64 m2, .int .i64 m3, .int .u32 m4])) (by simp [results, Tryz.results139, go_sem, t0, t1, t2, t3, t4]) rfl ⟨rfl, ?_⟩
  have hR := HA.out.2.2.2
  exact ((((HA.out.1.setCell hR _).setCell hR _).setCell hR _).setCell hR _).setCell hR _
set_option maxRecDepth 100000 in
set_option maxHeartbeats 2000000 in
theorem cjudge_2 (r0 r1 r2 r3 r4 : Int) (hw : Hid (∀ W, Calls Tryz.prog 166 #[(Value.agg #[.int .i64 m0, .int .i64 m1, .int .i64 m2, .int .i64 m3, .int .u32 m4])] W fun e w' => e = .returned (Value.agg #[.int .i64 r0, .int .i64 r1, .int .i64 r2, .int .i64 r3, .int .u32 r4]) ∧ Below W.heap.size W w')) (hc : Hid (CallJ cs s 2 m0 m1 m2 m3 m4 n0 n1 n2 n3 n4)) (w : World) :
    Calls Tryz.prog 121 #[.agg cs.toArray] w fun e w' => e = .returned (Value.agg #[.int .u32 0, .int .u32 0, .int .u32 0, .int .u32 0, .int .i64 r0, .int .i64 r1, .int .i64 r2, .int .i64 r3, .int .u32 r4, .int .i64 0, .int .i64 0, .int .i64 0, .int .i64 0, .int .u32 0, .int .i64 0, .int .i64 0, .int .i64 0, .int .i64 0, .int .u32 0]) ∧ Below w.heap.size w w' := by
  go_enter Tryz.func121, Tryz.ntmps121; go_upto_region 1 with fail; generalize hA : World.alloc w _ = wK; obtain ⟨C, hC⟩ : ∃ C, C = w.heap.size := ⟨_, rfl⟩; have HK : Hid (Below w.heap.size w wK ∧ wK.rangeAt C 0 cs ∧ wK.heap.size = C + 1) := Lib.hid (by rw [← hA, hC]; exact ⟨(Below.refl _ _).alloc (Nat.le_refl _) _, cbox _ _ _, by simp⟩); have HCl : Hid (w.heap.size ≤ C) := Lib.hid (by rw [hC]; exact Nat.le_refl _); rw [← hC]; clear hA hC; generalize hA : World.alloc wK _ = wA; obtain ⟨R, hR⟩ : ∃ R, R = C + 1 := ⟨_, rfl⟩; have HA : Hid (Below w.heap.size w wA ∧ wA.rangeAt C 0 cs ∧ World.there wA R 0 19 ∧ C < R ∧ R < wA.heap.size) := Lib.hid (by rw [← hA, hR, ← HK.out.2.2]; exact ⟨HK.out.1.alloc HK.out.1.size _, range_below HK.out.2.1 ((Below.refl _ _).alloc (Nat.le_refl _) _) (by have := HK.out.2.2; omega), nthere_new _ _ 19 (by rfl) _, by have := HK.out.2.2; omega, by simp⟩); rw [← hR]; clear hA hR; go_upto_region 2 with (first | (refine wpList_load_mid (by rfl) _ _ (by rfl) C 0 (by rfl) cs _ HA.out.2.1 Tryz.underlying129 rfl (by rw [hc.out.len]; exact infoCall) ?_) | (go_at_call 139; (with_reducible refine (osent_is hc _).mono ?_); rintro e w1 ⟨rfl, hb⟩; have HB1 : Hid (Below wA.heap.size wA w1) := Lib.hid hb; clear hb)); generalize hA : World.alloc w1 _ = w2; obtain ⟨J, hJ⟩ : ∃ J, J = w1.heap.size := ⟨_, rfl⟩; have H2 : Hid (Below wA.heap.size wA w2 ∧ KeyC w2 J m0 m1 m2 m3 m4 ∧ w2.rangeAt C 0 cs ∧ World.there w2 R 0 19 ∧ R < w2.heap.size) := Lib.hid (by have hb2 : Below wA.heap.size wA w2 := (by rw [← hA]; exact HB1.out.alloc HB1.out.size _); exact ⟨hb2, by rw [← hA, hJ]; exact KeyC.new _ _ _ _ _ _ _, range_below HA.out.2.1 hb2 (Nat.lt_trans HA.out.2.2.2.1 HA.out.2.2.2.2), nthere_below HA.out.2.2.1 hb2 HA.out.2.2.2.2, Nat.lt_of_lt_of_le HA.out.2.2.2.2 hb2.size⟩); have HJR : Hid (wA.heap.size ≤ J) := Lib.hid (by rw [hJ]; exact HB1.out.size); rw [← hJ]; clear hA hJ; have g6 := CallC.cell H2.out.2.2.1 6 _ hc.out.c6; obtain ⟨q0, q1, q2, q3, q4⟩ := ofive H2.out.2.1
  go_upto_region 8 with fail
  go_wp2_with (first
    | (go_at_call 166; (with_reducible refine (hw.out _).mono ?_); rintro e w3 ⟨rfl, hb⟩; have HB3 := Lib.hid (H2.out.1.trans (hb.mono H2.out.1.size)); clear hb)
    | (go_at_call 137; (with_reducible refine (okeyed_is r0 r1 r2 r3 r4 _).mono ?_); rintro e w4 ⟨rfl, hb⟩; have HB4 : Hid (Below wA.heap.size wA w4) := Lib.hid (HB3.out.trans (hb.mono HB3.out.size)); have HT := Lib.hid (nthere_below HA.out.2.2.1 HB4.out HA.out.2.2.2.2); clear hb)
    | (refine wpList_store_mid (by rfl) _ _ _ (by rfl) R 0 (([.int .u32 0, .int .u32 0, .int .u32 0, .int .u32 0, .int .i64 r0, .int .i64 r1, .int .i64 r2, .int .i64 r3, .int .u32 r4, .int .i64 0, .int .i64 0, .int .i64 0, .int .i64 0, .int .u32 0, .int .i64 0, .int .i64 0, .int .i64 0, .int .i64 0, .int .u32 0] : List Value)).toArray (by rfl) (by rfl) HT.out infoNote (note_one _ _ _ _ _ _ _ _ _ _ _ _ _ _ _ _ _ _ _) ?_))
  generalize hS : World.setCells w4 _ _ _ = wS; have hRn : w.heap.size ≤ R := (by have := HA.out.2.2.2.1; have := HCl.out; omega); have HS : Hid (Below w.heap.size w wS ∧ wS.rangeAt R 0 ([.int .u32 0, .int .u32 0, .int .u32 0, .int .u32 0, .int .i64 r0, .int .i64 r1, .int .i64 r2, .int .i64 r3, .int .u32 r4, .int .i64 0, .int .i64 0, .int .i64 0, .int .i64 0, .int .u32 0, .int .i64 0, .int .i64 0, .int .i64 0, .int .i64 0, .int .u32 0] : List Value)) := Lib.hid (by rw [← hS]; exact ⟨nbelow_cells (HA.out.1.trans ((HB4).out.mono HA.out.1.size)) hRn _ _, World.rangeAt_setCells_same w4 R 0 ([.int .u32 0, .int .u32 0, .int .u32 0, .int .u32 0, .int .i64 r0, .int .i64 r1, .int .i64 r2, .int .i64 r3, .int .u32 r4, .int .i64 0, .int .i64 0, .int .i64 0, .int .i64 0, .int .u32 0, .int .i64 0, .int .i64 0, .int .i64 0, .int .i64 0, .int .u32 0] : List Value) HT.out⟩); have hld := nload rfl HS.out.2; refine bodyPost_ret (v := (Value.agg #[.int .u32 0, .int .u32 0, .int .u32 0, .int .u32 0, .int .i64 r0, .int .i64 r1, .int .i64 r2, .int .i64 r3, .int .u32 r4, .int .i64 0, .int .i64 0, .int .i64 0, .int .i64 0, .int .u32 0, .int .i64 0, .int .i64 0, .int .i64 0, .int .i64 0, .int .u32 0])) (by simp [results, Tryz.results121, Act.put, asAddr, hld]) rfl ⟨rfl, HS.out.1⟩
theorem sameB_first {a0 a1 a2 a3 a4 b0 b1 b2 b3 b4 : Int} (h : sameB a0 a1 a2 a3 a4 b0 b1 b2 b3 b4 = false) : (a0 == b0) = false ∨ (a0 = b0 ∧ (a1 == b1) = false) ∨ (a0 = b0 ∧ a1 = b1 ∧ (a2 == b2) = false) ∨ (a0 = b0 ∧ a1 = b1 ∧ a2 = b2 ∧ (a3 == b3) = false) ∨ (a0 = b0 ∧ a1 = b1 ∧ a2 = b2 ∧ a3 = b3 ∧ (a4 == b4) = false) := by
  unfold sameB at h
  by_cases e0 : a0 = b0
  · by_cases e1 : a1 = b1
    · by_cases e2 : a2 = b2
      · by_cases e3 : a3 = b3
        · refine .inr (.inr (.inr (.inr ⟨e0, e1, e2, e3, ?_⟩)))
          simpa [e0, e1, e2, e3] using h
        · exact .inr (.inr (.inr (.inl ⟨e0, e1, e2, by simpa using e3⟩)))
      · exact .inr (.inr (.inl ⟨e0, e1, by simpa using e2⟩))
    · exact .inr (.inl ⟨e0, by simpa using e1⟩)
  · exact .inl (by simpa using e0)
set_option maxRecDepth 100000 in
set_option maxHeartbeats 8000000 in
theorem cjudge_1 (t : Bool) (ht : Hid (sameB m0 m1 m2 m3 m4 n0 n1 n2 n3 n4 = t)) (hc : Hid (CallJ cs s 1 m0 m1 m2 m3 m4 n0 n1 n2 n3 n4)) (w : World) :
    Calls Tryz.prog 121 #[.agg cs.toArray] w fun e w' => e = .returned (Value.agg #[.int .u32 0, .int .u32 (cnt01 t), .int .u32 0, .int .u32 0, .int .i64 0, .int .i64 0, .int .i64 0, .int .i64 0, .int .u32 0, .int .i64 0, .int .i64 0, .int .i64 0, .int .i64 0, .int .u32 0, .int .i64 0, .int .i64 0, .int .i64 0, .int .i64 0, .int .u32 0]) ∧ Below w.heap.size w w' := by
  cases t
  · rcases sameB_first ht.out with hq | ⟨rfl, hq⟩ | ⟨rfl, rfl, hq⟩ | ⟨rfl, rfl, rfl, hq⟩ | ⟨rfl, rfl, rfl, rfl, hq⟩
    · clear ht
      go_enter Tryz.func121, Tryz.ntmps121; go_upto_region 1 with fail; generalize hA : World.alloc w _ = wK; obtain ⟨C, hC⟩ : ∃ C, C = w.heap.size := ⟨_, rfl⟩; have HK : Hid (Below w.heap.size w wK ∧ wK.rangeAt C 0 cs ∧ wK.heap.size = C + 1) := Lib.hid (by rw [← hA, hC]; exact ⟨(Below.refl _ _).alloc (Nat.le_refl _) _, cbox _ _ _, by simp⟩); have HCl : Hid (w.heap.size ≤ C) := Lib.hid (by rw [hC]; exact Nat.le_refl _); rw [← hC]; clear hA hC; generalize hA : World.alloc wK _ = wA; obtain ⟨R, hR⟩ : ∃ R, R = C + 1 := ⟨_, rfl⟩; have HA : Hid (Below w.heap.size w wA ∧ wA.rangeAt C 0 cs ∧ World.there wA R 0 19 ∧ C < R ∧ R < wA.heap.size) := Lib.hid (by rw [← hA, hR, ← HK.out.2.2]; exact ⟨HK.out.1.alloc HK.out.1.size _, range_below HK.out.2.1 ((Below.refl _ _).alloc (Nat.le_refl _) _) (by have := HK.out.2.2; omega), nthere_new _ _ 19 (by rfl) _, by have := HK.out.2.2; omega, by simp⟩); rw [← hR]; clear hA hR; go_upto_region 2 with (first | (refine wpList_load_mid (by rfl) _ _ (by rfl) C 0 (by rfl) cs _ HA.out.2.1 Tryz.underlying129 rfl (by rw [hc.out.len]; exact infoCall) ?_) | (go_at_call 139; (with_reducible refine (osent_is hc _).mono ?_); rintro e w1 ⟨rfl, hb⟩; have HB1 : Hid (Below wA.heap.size wA w1) := Lib.hid hb; clear hb)); generalize hA : World.alloc w1 _ = w2; obtain ⟨J, hJ⟩ : ∃ J, J = w1.heap.size := ⟨_, rfl⟩; have H2 : Hid (Below wA.heap.size wA w2 ∧ KeyC w2 J m0 m1 m2 m3 m4 ∧ w2.rangeAt C 0 cs ∧ World.there w2 R 0 19 ∧ R < w2.heap.size) := Lib.hid (by have hb2 : Below wA.heap.size wA w2 := (by rw [← hA]; exact HB1.out.alloc HB1.out.size _); exact ⟨hb2, by rw [← hA, hJ]; exact KeyC.new _ _ _ _ _ _ _, range_below HA.out.2.1 hb2 (Nat.lt_trans HA.out.2.2.2.1 HA.out.2.2.2.2), nthere_below HA.out.2.2.1 hb2 HA.out.2.2.2.2, Nat.lt_of_lt_of_le HA.out.2.2.2.2 hb2.size⟩); have HJR : Hid (wA.heap.size ≤ J) := Lib.hid (by rw [hJ]; exact HB1.out.size); rw [← hJ]; clear hA hJ; have g6 := CallC.cell H2.out.2.2.1 6 _ hc.out.c6; obtain ⟨q0, q1, q2, q3, q4⟩ := ofive H2.out.2.1; have t0 := CallC.cell H2.out.2.2.1 15 _ hc.out.b0; have t1 := CallC.cell H2.out.2.2.1 16 _ hc.out.b1; have t2 := CallC.cell H2.out.2.2.1 17 _ hc.out.b2; have t3 := CallC.cell H2.out.2.2.1 18 _ hc.out.b3; have t4 := CallC.cell H2.out.2.2.1 19 _ hc.out.b4; go_upto_region 6 with fail; go_wp2_with (first | (go_at_call 163; (with_reducible refine (count_is false _).mono ?_); rintro e w3 ⟨rfl, rfl⟩) | (go_at_call 133; (with_reducible refine (owords_one (cnt01 false) w2.heap.size 1 _ (by simp)).mono ?_); rintro e w4 ⟨rfl, hb⟩; have HB4 : Hid (Below wA.heap.size wA w4) := Lib.hid ((H2.out.1.alloc H2.out.1.size _).trans (hb.mono (Nat.le_trans H2.out.1.size (by simp)))); have HT := Lib.hid (nthere_below HA.out.2.2.1 HB4.out HA.out.2.2.2.2); clear hb) | (refine wpList_store_mid (by rfl) _ _ _ (by rfl) R 0 ([.int .u32 0, .int .u32 (cnt01 false), .int .u32 0, .int .u32 0, .int .i64 0, .int .i64 0, .int .i64 0, .int .i64 0, .int .u32 0, .int .i64 0, .int .i64 0, .int .i64 0, .int .i64 0, .int .u32 0, .int .i64 0, .int .i64 0, .int .i64 0, .int .i64 0, .int .u32 0] : List Value).toArray (by rfl) (by rfl) HT.out infoNote (note_one _ _ _ _ _ _ _ _ _ _ _ _ _ _ _ _ _ _ _) ?_)); generalize hS : World.setCells w4 _ _ _ = wS; have hRn : w.heap.size ≤ R := (by have := HA.out.2.2.2.1; have := HCl.out; omega); have HS : Hid (Below w.heap.size w wS ∧ wS.rangeAt R 0 [.int .u32 0, .int .u32 (cnt01 false), .int .u32 0, .int .u32 0, .int .i64 0, .int .i64 0, .int .i64 0, .int .i64 0, .int .u32 0, .int .i64 0, .int .i64 0, .int .i64 0, .int .i64 0, .int .u32 0, .int .i64 0, .int .i64 0, .int .i64 0, .int .i64 0, .int .u32 0]) := Lib.hid (by rw [← hS]; exact ⟨nbelow_cells (HA.out.1.trans ((HB4).out.mono HA.out.1.size)) hRn _ _, World.rangeAt_setCells_same w4 R 0 [.int .u32 0, .int .u32 (cnt01 false), .int .u32 0, .int .u32 0, .int .i64 0, .int .i64 0, .int .i64 0, .int .i64 0, .int .u32 0, .int .i64 0, .int .i64 0, .int .i64 0, .int .i64 0, .int .u32 0, .int .i64 0, .int .i64 0, .int .i64 0, .int .i64 0, .int .u32 0] HT.out⟩); have hld := nload rfl HS.out.2; refine bodyPost_ret (v := (Value.agg #[.int .u32 0, .int .u32 (cnt01 false), .int .u32 0, .int .u32 0, .int .i64 0, .int .i64 0, .int .i64 0, .int .i64 0, .int .u32 0, .int .i64 0, .int .i64 0, .int .i64 0, .int .i64 0, .int .u32 0, .int .i64 0, .int .i64 0, .int .i64 0, .int .i64 0, .int .u32 0])) (by simp [results, Tryz.results121, Act.put, asAddr, hld]) rfl ⟨rfl, HS.out.1⟩
    · clear ht
      go_enter Tryz.func121, Tryz.ntmps121; go_upto_region 1 with fail; generalize hA : World.alloc w _ = wK; obtain ⟨C, hC⟩ : ∃ C, C = w.heap.size := ⟨_, rfl⟩; have HK : Hid (Below w.heap.size w wK ∧ wK.rangeAt C 0 cs ∧ wK.heap.size = C + 1) := Lib.hid (by rw [← hA, hC]; exact ⟨(Below.refl _ _).alloc (Nat.le_refl _) _, cbox _ _ _, by simp⟩); have HCl : Hid (w.heap.size ≤ C) := Lib.hid (by rw [hC]; exact Nat.le_refl _); rw [← hC]; clear hA hC; generalize hA : World.alloc wK _ = wA; obtain ⟨R, hR⟩ : ∃ R, R = C + 1 := ⟨_, rfl⟩; have HA : Hid (Below w.heap.size w wA ∧ wA.rangeAt C 0 cs ∧ World.there wA R 0 19 ∧ C < R ∧ R < wA.heap.size) := Lib.hid (by rw [← hA, hR, ← HK.out.2.2]; exact ⟨HK.out.1.alloc HK.out.1.size _, range_below HK.out.2.1 ((Below.refl _ _).alloc (Nat.le_refl _) _) (by have := HK.out.2.2; omega), nthere_new _ _ 19 (by rfl) _, by have := HK.out.2.2; omega, by simp⟩); rw [← hR]; clear hA hR; go_upto_region 2 with (first | (refine wpList_load_mid (by rfl) _ _ (by rfl) C 0 (by rfl) cs _ HA.out.2.1 Tryz.underlying129 rfl (by rw [hc.out.len]; exact infoCall) ?_) | (go_at_call 139; (with_reducible refine (osent_is hc _).mono ?_); rintro e w1 ⟨rfl, hb⟩; have HB1 : Hid (Below wA.heap.size wA w1) := Lib.hid hb; clear hb)); generalize hA : World.alloc w1 _ = w2; obtain ⟨J, hJ⟩ : ∃ J, J = w1.heap.size := ⟨_, rfl⟩; have H2 : Hid (Below wA.heap.size wA w2 ∧ KeyC w2 J m0 m1 m2 m3 m4 ∧ w2.rangeAt C 0 cs ∧ World.there w2 R 0 19 ∧ R < w2.heap.size) := Lib.hid (by have hb2 : Below wA.heap.size wA w2 := (by rw [← hA]; exact HB1.out.alloc HB1.out.size _); exact ⟨hb2, by rw [← hA, hJ]; exact KeyC.new _ _ _ _ _ _ _, range_below HA.out.2.1 hb2 (Nat.lt_trans HA.out.2.2.2.1 HA.out.2.2.2.2), nthere_below HA.out.2.2.1 hb2 HA.out.2.2.2.2, Nat.lt_of_lt_of_le HA.out.2.2.2.2 hb2.size⟩); have HJR : Hid (wA.heap.size ≤ J) := Lib.hid (by rw [hJ]; exact HB1.out.size); rw [← hJ]; clear hA hJ; have g6 := CallC.cell H2.out.2.2.1 6 _ hc.out.c6; obtain ⟨q0, q1, q2, q3, q4⟩ := ofive H2.out.2.1; have t0 := CallC.cell H2.out.2.2.1 15 _ hc.out.b0; have t1 := CallC.cell H2.out.2.2.1 16 _ hc.out.b1; have t2 := CallC.cell H2.out.2.2.1 17 _ hc.out.b2; have t3 := CallC.cell H2.out.2.2.1 18 _ hc.out.b3; have t4 := CallC.cell H2.out.2.2.1 19 _ hc.out.b4; go_upto_region 6 with fail; go_wp2_with (first | (go_at_call 163; (with_reducible refine (count_is false _).mono ?_); rintro e w3 ⟨rfl, rfl⟩) | (go_at_call 133; (with_reducible refine (owords_one (cnt01 false) w2.heap.size 1 _ (by simp)).mono ?_); rintro e w4 ⟨rfl, hb⟩; have HB4 : Hid (Below wA.heap.size wA w4) := Lib.hid ((H2.out.1.alloc H2.out.1.size _).trans (hb.mono (Nat.le_trans H2.out.1.size (by simp)))); have HT := Lib.hid (nthere_below HA.out.2.2.1 HB4.out HA.out.2.2.2.2); clear hb) | (refine wpList_store_mid (by rfl) _ _ _ (by rfl) R 0 ([.int .u32 0, .int .u32 (cnt01 false), .int .u32 0, .int .u32 0, .int .i64 0, .int .i64 0, .int .i64 0, .int .i64 0, .int .u32 0, .int .i64 0, .int .i64 0, .int .i64 0, .int .i64 0, .int .u32 0, .int .i64 0, .int .i64 0, .int .i64 0, .int .i64 0, .int .u32 0] : List Value).toArray (by rfl) (by rfl) HT.out infoNote (note_one _ _ _ _ _ _ _ _ _ _ _ _ _ _ _ _ _ _ _) ?_)); generalize hS : World.setCells w4 _ _ _ = wS; have hRn : w.heap.size ≤ R := (by have := HA.out.2.2.2.1; have := HCl.out; omega); have HS : Hid (Below w.heap.size w wS ∧ wS.rangeAt R 0 [.int .u32 0, .int .u32 (cnt01 false), .int .u32 0, .int .u32 0, .int .i64 0, .int .i64 0, .int .i64 0, .int .i64 0, .int .u32 0, .int .i64 0, .int .i64 0, .int .i64 0, .int .i64 0, .int .u32 0, .int .i64 0, .int .i64 0, .int .i64 0, .int .i64 0, .int .u32 0]) := Lib.hid (by rw [← hS]; exact ⟨nbelow_cells (HA.out.1.trans ((HB4).out.mono HA.out.1.size)) hRn _ _, World.rangeAt_setCells_same w4 R 0 [.int .u32 0, .int .u32 (cnt01 false), .int .u32 0, .int .u32 0, .int .i64 0, .int .i64 0, .int .i64 0, .int .i64 0, .int .u32 0, .int .i64 0, .int .i64 0, .int .i64 0, .int .i64 0, .int .u32 0, .int .i64 0, .int .i64 0, .int .i64 0, .int .i64 0, .int .u32 0] HT.out⟩); have hld := nload rfl HS.out.2; refine bodyPost_ret (v := (Value.agg #[.int .u32 0, .int .u32 (cnt01 false), .int .u32 0, .int .u32 0, .int .i64 0, .int .i64 0, .int .i64 0, .int .i64 0, .int .u32 0, .int .i64 0, .int .i64 0, .int .i64 0, .int .i64 0, .int .u32 0, .int .i64 0, .int .i64 0, .int .i64 0, .int .i64 0, .int .u32 0])) (by simp [results, Tryz.results121, Act.put, asAddr, hld]) rfl ⟨rfl, HS.out.1⟩
    · clear ht
      go_enter Tryz.func121, Tryz.ntmps121; go_upto_region 1 with fail; generalize hA : World.alloc w _ = wK; obtain ⟨C, hC⟩ : ∃ C, C = w.heap.size := ⟨_, rfl⟩; have HK : Hid (Below w.heap.size w wK ∧ wK.rangeAt C 0 cs ∧ wK.heap.size = C + 1) := Lib.hid (by rw [← hA, hC]; exact ⟨(Below.refl _ _).alloc (Nat.le_refl _) _, cbox _ _ _, by simp⟩); have HCl : Hid (w.heap.size ≤ C) := Lib.hid (by rw [hC]; exact Nat.le_refl _); rw [← hC]; clear hA hC; generalize hA : World.alloc wK _ = wA; obtain ⟨R, hR⟩ : ∃ R, R = C + 1 := ⟨_, rfl⟩; have HA : Hid (Below w.heap.size w wA ∧ wA.rangeAt C 0 cs ∧ World.there wA R 0 19 ∧ C < R ∧ R < wA.heap.size) := Lib.hid (by rw [← hA, hR, ← HK.out.2.2]; exact ⟨HK.out.1.alloc HK.out.1.size _, range_below HK.out.2.1 ((Below.refl _ _).alloc (Nat.le_refl _) _) (by have := HK.out.2.2; omega), nthere_new _ _ 19 (by rfl) _, by have := HK.out.2.2; omega, by simp⟩); rw [← hR]; clear hA hR; go_upto_region 2 with (first | (refine wpList_load_mid (by rfl) _ _ (by rfl) C 0 (by rfl) cs _ HA.out.2.1 Tryz.underlying129 rfl (by rw [hc.out.len]; exact infoCall) ?_) | (go_at_call 139; (with_reducible refine (osent_is hc _).mono ?_); rintro e w1 ⟨rfl, hb⟩; have HB1 : Hid (Below wA.heap.size wA w1) := Lib.hid hb; clear hb)); generalize hA : World.alloc w1 _ = w2; obtain ⟨J, hJ⟩ : ∃ J, J = w1.heap.size := ⟨_, rfl⟩; have H2 : Hid (Below wA.heap.size wA w2 ∧ KeyC w2 J m0 m1 m2 m3 m4 ∧ w2.rangeAt C 0 cs ∧ World.there w2 R 0 19 ∧ R < w2.heap.size) := Lib.hid (by have hb2 : Below wA.heap.size wA w2 := (by rw [← hA]; exact HB1.out.alloc HB1.out.size _); exact ⟨hb2, by rw [← hA, hJ]; exact KeyC.new _ _ _ _ _ _ _, range_below HA.out.2.1 hb2 (Nat.lt_trans HA.out.2.2.2.1 HA.out.2.2.2.2), nthere_below HA.out.2.2.1 hb2 HA.out.2.2.2.2, Nat.lt_of_lt_of_le HA.out.2.2.2.2 hb2.size⟩); have HJR : Hid (wA.heap.size ≤ J) := Lib.hid (by rw [hJ]; exact HB1.out.size); rw [← hJ]; clear hA hJ; have g6 := CallC.cell H2.out.2.2.1 6 _ hc.out.c6; obtain ⟨q0, q1, q2, q3, q4⟩ := ofive H2.out.2.1; have t0 := CallC.cell H2.out.2.2.1 15 _ hc.out.b0; have t1 := CallC.cell H2.out.2.2.1 16 _ hc.out.b1; have t2 := CallC.cell H2.out.2.2.1 17 _ hc.out.b2; have t3 := CallC.cell H2.out.2.2.1 18 _ hc.out.b3; have t4 := CallC.cell H2.out.2.2.1 19 _ hc.out.b4; go_upto_region 6 with fail; go_wp2_with (first | (go_at_call 163; (with_reducible refine (count_is false _).mono ?_); rintro e w3 ⟨rfl, rfl⟩) | (go_at_call 133; (with_reducible refine (owords_one (cnt01 false) w2.heap.size 1 _ (by simp)).mono ?_); rintro e w4 ⟨rfl, hb⟩; have HB4 : Hid (Below wA.heap.size wA w4) := Lib.hid ((H2.out.1.alloc H2.out.1.size _).trans (hb.mono (Nat.le_trans H2.out.1.size (by simp)))); have HT := Lib.hid (nthere_below HA.out.2.2.1 HB4.out HA.out.2.2.2.2); clear hb) | (refine wpList_store_mid (by rfl) _ _ _ (by rfl) R 0 ([.int .u32 0, .int .u32 (cnt01 false), .int .u32 0, .int .u32 0, .int .i64 0, .int .i64 0, .int .i64 0, .int .i64 0, .int .u32 0, .int .i64 0, .int .i64 0, .int .i64 0, .int .i64 0, .int .u32 0, .int .i64 0, .int .i64 0, .int .i64 0, .int .i64 0, .int .u32 0] : List Value).toArray (by rfl) (by rfl) HT.out infoNote (note_one _ _ _ _ _ _ _ _ _ _ _ _ _ _ _ _ _ _ _) ?_)); generalize hS : World.setCells w4 _ _ _ = wS; have hRn : w.heap.size ≤ R := (by have := HA.out.2.2.2.1; have := HCl.out; omega); have HS : Hid (Below w.heap.size w wS ∧ wS.rangeAt R 0 [.int .u32 0, .int .u32 (cnt01 false), .int .u32 0, .int .u32 0, .int .i64 0, .int .i64 0, .int .i64 0, .int .i64 0, .int .u32 0, .int .i64 0, .int .i64 0, .int .i64 0, .int .i64 0, .int .u32 0, .int .i64 0, .int .i64 0, .int .i64 0, .int .i64 0, .int .u32 0]) := Lib.hid (by rw [← hS]; exact ⟨nbelow_cells (HA.out.1.trans ((HB4).out.mono HA.out.1.size)) hRn _ _, World.rangeAt_setCells_same w4 R 0 [.int .u32 0, .int .u32 (cnt01 false), .int .u32 0, .int .u32 0, .int .i64 0, .int .i64 0, .int .i64 0, .int .i64 0, .int .u32 0, .int .i64 0, .int .i64 0, .int .i64 0, .int .i64 0, .int .u32 0, .int .i64 0, .int .i64 0, .int .i64 0, .int .i64 0, .int .u32 0] HT.out⟩); have hld := nload rfl HS.out.2; refine bodyPost_ret (v := (Value.agg #[.int .u32 0, .int .u32 (cnt01 false), .int .u32 0, .int .u32 0, .int .i64 0, .int .i64 0, .int .i64 0, .int .i64 0, .int .u32 0, .int .i64 0, .int .i64 0, .int .i64 0, .int .i64 0, .int .u32 0, .int .i64 0, .int .i64 0, .int .i64 0, .int .i64 0, .int .u32 0])) (by simp [results, Tryz.results121, Act.put, asAddr, hld]) rfl ⟨rfl, HS.out.1⟩
    · clear ht
      go_enter Tryz.func121, Tryz.ntmps121; go_upto_region 1 with fail; generalize hA : World.alloc w _ = wK; obtain ⟨C, hC⟩ : ∃ C, C = w.heap.size := ⟨_, rfl⟩; have HK : Hid (Below w.heap.size w wK ∧ wK.rangeAt C 0 cs ∧ wK.heap.size = C + 1) := Lib.hid (by rw [← hA, hC]; exact ⟨(Below.refl _ _).alloc (Nat.le_refl _) _, cbox _ _ _, by simp⟩); have HCl : Hid (w.heap.size ≤ C) := Lib.hid (by rw [hC]; exact Nat.le_refl _); rw [← hC]; clear hA hC; generalize hA : World.alloc wK _ = wA; obtain ⟨R, hR⟩ : ∃ R, R = C + 1 := ⟨_, rfl⟩; have HA : Hid (Below w.heap.size w wA ∧ wA.rangeAt C 0 cs ∧ World.there wA R 0 19 ∧ C < R ∧ R < wA.heap.size) := Lib.hid (by rw [← hA, hR, ← HK.out.2.2]; exact ⟨HK.out.1.alloc HK.out.1.size _, range_below HK.out.2.1 ((Below.refl _ _).alloc (Nat.le_refl _) _) (by have := HK.out.2.2; omega), nthere_new _ _ 19 (by rfl) _, by have := HK.out.2.2; omega, by simp⟩); rw [← hR]; clear hA hR; go_upto_region 2 with (first | (refine wpList_load_mid (by rfl) _ _ (by rfl) C 0 (by rfl) cs _ HA.out.2.1 Tryz.underlying129 rfl (by rw [hc.out.len]; exact infoCall) ?_) | (go_at_call 139; (with_reducible refine (osent_is hc _).mono ?_); rintro e w1 ⟨rfl, hb⟩; have HB1 : Hid (Below wA.heap.size wA w1) := Lib.hid hb; clear hb)); generalize hA : World.alloc w1 _ = w2; obtain ⟨J, hJ⟩ : ∃ J, J = w1.heap.size := ⟨_, rfl⟩; have H2 : Hid (Below wA.heap.size wA w2 ∧ KeyC w2 J m0 m1 m2 m3 m4 ∧ w2.rangeAt C 0 cs ∧ World.there w2 R 0 19 ∧ R < w2.heap.size) := Lib.hid (by have hb2 : Below wA.heap.size wA w2 := (by rw [← hA]; exact HB1.out.alloc HB1.out.size _); exact ⟨hb2, by rw [← hA, hJ]; exact KeyC.new _ _ _ _ _ _ _, range_below HA.out.2.1 hb2 (Nat.lt_trans HA.out.2.2.2.1 HA.out.2.2.2.2), nthere_below HA.out.2.2.1 hb2 HA.out.2.2.2.2, Nat.lt_of_lt_of_le HA.out.2.2.2.2 hb2.size⟩); have HJR : Hid (wA.heap.size ≤ J) := Lib.hid (by rw [hJ]; exact HB1.out.size); rw [← hJ]; clear hA hJ; have g6 := CallC.cell H2.out.2.2.1 6 _ hc.out.c6; obtain ⟨q0, q1, q2, q3, q4⟩ := ofive H2.out.2.1; have t0 := CallC.cell H2.out.2.2.1 15 _ hc.out.b0; have t1 := CallC.cell H2.out.2.2.1 16 _ hc.out.b1; have t2 := CallC.cell H2.out.2.2.1 17 _ hc.out.b2; have t3 := CallC.cell H2.out.2.2.1 18 _ hc.out.b3; have t4 := CallC.cell H2.out.2.2.1 19 _ hc.out.b4; go_upto_region 6 with fail; go_wp2_with (first | (go_at_call 163; (with_reducible refine (count_is false _).mono ?_); rintro e w3 ⟨rfl, rfl⟩) | (go_at_call 133; (with_reducible refine (owords_one (cnt01 false) w2.heap.size 1 _ (by simp)).mono ?_); rintro e w4 ⟨rfl, hb⟩; have HB4 : Hid (Below wA.heap.size wA w4) := Lib.hid ((H2.out.1.alloc H2.out.1.size _).trans (hb.mono (Nat.le_trans H2.out.1.size (by simp)))); have HT := Lib.hid (nthere_below HA.out.2.2.1 HB4.out HA.out.2.2.2.2); clear hb) | (refine wpList_store_mid (by rfl) _ _ _ (by rfl) R 0 ([.int .u32 0, .int .u32 (cnt01 false), .int .u32 0, .int .u32 0, .int .i64 0, .int .i64 0, .int .i64 0, .int .i64 0, .int .u32 0, .int .i64 0, .int .i64 0, .int .i64 0, .int .i64 0, .int .u32 0, .int .i64 0, .int .i64 0, .int .i64 0, .int .i64 0, .int .u32 0] : List Value).toArray (by rfl) (by rfl) HT.out infoNote (note_one _ _ _ _ _ _ _ _ _ _ _ _ _ _ _ _ _ _ _) ?_)); generalize hS : World.setCells w4 _ _ _ = wS; have hRn : w.heap.size ≤ R := (by have := HA.out.2.2.2.1; have := HCl.out; omega); have HS : Hid (Below w.heap.size w wS ∧ wS.rangeAt R 0 [.int .u32 0, .int .u32 (cnt01 false), .int .u32 0, .int .u32 0, .int .i64 0, .int .i64 0, .int .i64 0, .int .i64 0, .int .u32 0, .int .i64 0, .int .i64 0, .int .i64 0, .int .i64 0, .int .u32 0, .int .i64 0, .int .i64 0, .int .i64 0, .int .i64 0, .int .u32 0]) := Lib.hid (by rw [← hS]; exact ⟨nbelow_cells (HA.out.1.trans ((HB4).out.mono HA.out.1.size)) hRn _ _, World.rangeAt_setCells_same w4 R 0 [.int .u32 0, .int .u32 (cnt01 false), .int .u32 0, .int .u32 0, .int .i64 0, .int .i64 0, .int .i64 0, .int .i64 0, .int .u32 0, .int .i64 0, .int .i64 0, .int .i64 0, .int .i64 0, .int .u32 0, .int .i64 0, .int .i64 0, .int .i64 0, .int .i64 0, .int .u32 0] HT.out⟩); have hld := nload rfl HS.out.2; refine bodyPost_ret (v := (Value.agg #[.int .u32 0, .int .u32 (cnt01 false), .int .u32 0, .int .u32 0, .int .i64 0, .int .i64 0, .int .i64 0, .int .i64 0, .int .u32 0, .int .i64 0, .int .i64 0, .int .i64 0, .int .i64 0, .int .u32 0, .int .i64 0, .int .i64 0, .int .i64 0, .int .i64 0, .int .u32 0])) (by simp [results, Tryz.results121, Act.put, asAddr, hld]) rfl ⟨rfl, HS.out.1⟩
    · clear ht
      go_enter Tryz.func121, Tryz.ntmps121; go_upto_region 1 with fail; generalize hA : World.alloc w _ = wK; obtain ⟨C, hC⟩ : ∃ C, C = w.heap.size := ⟨_, rfl⟩; have HK : Hid (Below w.heap.size w wK ∧ wK.rangeAt C 0 cs ∧ wK.heap.size = C + 1) := Lib.hid (by rw [← hA, hC]; exact ⟨(Below.refl _ _).alloc (Nat.le_refl _) _, cbox _ _ _, by simp⟩); have HCl : Hid (w.heap.size ≤ C) := Lib.hid (by rw [hC]; exact Nat.le_refl _); rw [← hC]; clear hA hC; generalize hA : World.alloc wK _ = wA; obtain ⟨R, hR⟩ : ∃ R, R = C + 1 := ⟨_, rfl⟩; have HA : Hid (Below w.heap.size w wA ∧ wA.rangeAt C 0 cs ∧ World.there wA R 0 19 ∧ C < R ∧ R < wA.heap.size) := Lib.hid (by rw [← hA, hR, ← HK.out.2.2]; exact ⟨HK.out.1.alloc HK.out.1.size _, range_below HK.out.2.1 ((Below.refl _ _).alloc (Nat.le_refl _) _) (by have := HK.out.2.2; omega), nthere_new _ _ 19 (by rfl) _, by have := HK.out.2.2; omega, by simp⟩); rw [← hR]; clear hA hR; go_upto_region 2 with (first | (refine wpList_load_mid (by rfl) _ _ (by rfl) C 0 (by rfl) cs _ HA.out.2.1 Tryz.underlying129 rfl (by rw [hc.out.len]; exact infoCall) ?_) | (go_at_call 139; (with_reducible refine (osent_is hc _).mono ?_); rintro e w1 ⟨rfl, hb⟩; have HB1 : Hid (Below wA.heap.size wA w1) := Lib.hid hb; clear hb)); generalize hA : World.alloc w1 _ = w2; obtain ⟨J, hJ⟩ : ∃ J, J = w1.heap.size := ⟨_, rfl⟩; have H2 : Hid (Below wA.heap.size wA w2 ∧ KeyC w2 J m0 m1 m2 m3 m4 ∧ w2.rangeAt C 0 cs ∧ World.there w2 R 0 19 ∧ R < w2.heap.size) := Lib.hid (by have hb2 : Below wA.heap.size wA w2 := (by rw [← hA]; exact HB1.out.alloc HB1.out.size _); exact ⟨hb2, by rw [← hA, hJ]; exact KeyC.new _ _ _ _ _ _ _, range_below HA.out.2.1 hb2 (Nat.lt_trans HA.out.2.2.2.1 HA.out.2.2.2.2), nthere_below HA.out.2.2.1 hb2 HA.out.2.2.2.2, Nat.lt_of_lt_of_le HA.out.2.2.2.2 hb2.size⟩); have HJR : Hid (wA.heap.size ≤ J) := Lib.hid (by rw [hJ]; exact HB1.out.size); rw [← hJ]; clear hA hJ; have g6 := CallC.cell H2.out.2.2.1 6 _ hc.out.c6; obtain ⟨q0, q1, q2, q3, q4⟩ := ofive H2.out.2.1; have t0 := CallC.cell H2.out.2.2.1 15 _ hc.out.b0; have t1 := CallC.cell H2.out.2.2.1 16 _ hc.out.b1; have t2 := CallC.cell H2.out.2.2.1 17 _ hc.out.b2; have t3 := CallC.cell H2.out.2.2.1 18 _ hc.out.b3; have t4 := CallC.cell H2.out.2.2.1 19 _ hc.out.b4; go_upto_region 6 with fail; go_wp2_with (first | (go_at_call 163; (with_reducible refine (count_is false _).mono ?_); rintro e w3 ⟨rfl, rfl⟩) | (go_at_call 133; (with_reducible refine (owords_one (cnt01 false) w2.heap.size 1 _ (by simp)).mono ?_); rintro e w4 ⟨rfl, hb⟩; have HB4 : Hid (Below wA.heap.size wA w4) := Lib.hid ((H2.out.1.alloc H2.out.1.size _).trans (hb.mono (Nat.le_trans H2.out.1.size (by simp)))); have HT := Lib.hid (nthere_below HA.out.2.2.1 HB4.out HA.out.2.2.2.2); clear hb) | (refine wpList_store_mid (by rfl) _ _ _ (by rfl) R 0 ([.int .u32 0, .int .u32 (cnt01 false), .int .u32 0, .int .u32 0, .int .i64 0, .int .i64 0, .int .i64 0, .int .i64 0, .int .u32 0, .int .i64 0, .int .i64 0, .int .i64 0, .int .i64 0, .int .u32 0, .int .i64 0, .int .i64 0, .int .i64 0, .int .i64 0, .int .u32 0] : List Value).toArray (by rfl) (by rfl) HT.out infoNote (note_one _ _ _ _ _ _ _ _ _ _ _ _ _ _ _ _ _ _ _) ?_)); generalize hS : World.setCells w4 _ _ _ = wS; have hRn : w.heap.size ≤ R := (by have := HA.out.2.2.2.1; have := HCl.out; omega); have HS : Hid (Below w.heap.size w wS ∧ wS.rangeAt R 0 [.int .u32 0, .int .u32 (cnt01 false), .int .u32 0, .int .u32 0, .int .i64 0, .int .i64 0, .int .i64 0, .int .i64 0, .int .u32 0, .int .i64 0, .int .i64 0, .int .i64 0, .int .i64 0, .int .u32 0, .int .i64 0, .int .i64 0, .int .i64 0, .int .i64 0, .int .u32 0]) := Lib.hid (by rw [← hS]; exact ⟨nbelow_cells (HA.out.1.trans ((HB4).out.mono HA.out.1.size)) hRn _ _, World.rangeAt_setCells_same w4 R 0 [.int .u32 0, .int .u32 (cnt01 false), .int .u32 0, .int .u32 0, .int .i64 0, .int .i64 0, .int .i64 0, .int .i64 0, .int .u32 0, .int .i64 0, .int .i64 0, .int .i64 0, .int .i64 0, .int .u32 0, .int .i64 0, .int .i64 0, .int .i64 0, .int .i64 0, .int .u32 0] HT.out⟩); have hld := nload rfl HS.out.2; refine bodyPost_ret (v := (Value.agg #[.int .u32 0, .int .u32 (cnt01 false), .int .u32 0, .int .u32 0, .int .i64 0, .int .i64 0, .int .i64 0, .int .i64 0, .int .u32 0, .int .i64 0, .int .i64 0, .int .i64 0, .int .i64 0, .int .u32 0, .int .i64 0, .int .i64 0, .int .i64 0, .int .i64 0, .int .u32 0])) (by simp [results, Tryz.results121, Act.put, asAddr, hld]) rfl ⟨rfl, HS.out.1⟩
  · have h2 := ht.out
    simp only [sameB, Bool.and_eq_true, beq_iff_eq] at h2
    obtain ⟨rfl, rfl, rfl, rfl, rfl⟩ := h2
    clear ht
    go_enter Tryz.func121, Tryz.ntmps121; go_upto_region 1 with fail; generalize hA : World.alloc w _ = wK; obtain ⟨C, hC⟩ : ∃ C, C = w.heap.size := ⟨_, rfl⟩; have HK : Hid (Below w.heap.size w wK ∧ wK.rangeAt C 0 cs ∧ wK.heap.size = C + 1) := Lib.hid (by rw [← hA, hC]; exact ⟨(Below.refl _ _).alloc (Nat.le_refl _) _, cbox _ _ _, by simp⟩); have HCl : Hid (w.heap.size ≤ C) := Lib.hid (by rw [hC]; exact Nat.le_refl _); rw [← hC]; clear hA hC; generalize hA : World.alloc wK _ = wA; obtain ⟨R, hR⟩ : ∃ R, R = C + 1 := ⟨_, rfl⟩; have HA : Hid (Below w.heap.size w wA ∧ wA.rangeAt C 0 cs ∧ World.there wA R 0 19 ∧ C < R ∧ R < wA.heap.size) := Lib.hid (by rw [← hA, hR, ← HK.out.2.2]; exact ⟨HK.out.1.alloc HK.out.1.size _, range_below HK.out.2.1 ((Below.refl _ _).alloc (Nat.le_refl _) _) (by have := HK.out.2.2; omega), nthere_new _ _ 19 (by rfl) _, by have := HK.out.2.2; omega, by simp⟩); rw [← hR]; clear hA hR; go_upto_region 2 with (first | (refine wpList_load_mid (by rfl) _ _ (by rfl) C 0 (by rfl) cs _ HA.out.2.1 Tryz.underlying129 rfl (by rw [hc.out.len]; exact infoCall) ?_) | (go_at_call 139; (with_reducible refine (osent_is hc _).mono ?_); rintro e w1 ⟨rfl, hb⟩; have HB1 : Hid (Below wA.heap.size wA w1) := Lib.hid hb; clear hb)); generalize hA : World.alloc w1 _ = w2; obtain ⟨J, hJ⟩ : ∃ J, J = w1.heap.size := ⟨_, rfl⟩; have H2 : Hid (Below wA.heap.size wA w2 ∧ KeyC w2 J m0 m1 m2 m3 m4 ∧ w2.rangeAt C 0 cs ∧ World.there w2 R 0 19 ∧ R < w2.heap.size) := Lib.hid (by have hb2 : Below wA.heap.size wA w2 := (by rw [← hA]; exact HB1.out.alloc HB1.out.size _); exact ⟨hb2, by rw [← hA, hJ]; exact KeyC.new _ _ _ _ _ _ _, range_below HA.out.2.1 hb2 (Nat.lt_trans HA.out.2.2.2.1 HA.out.2.2.2.2), nthere_below HA.out.2.2.1 hb2 HA.out.2.2.2.2, Nat.lt_of_lt_of_le HA.out.2.2.2.2 hb2.size⟩); have HJR : Hid (wA.heap.size ≤ J) := Lib.hid (by rw [hJ]; exact HB1.out.size); rw [← hJ]; clear hA hJ; have g6 := CallC.cell H2.out.2.2.1 6 _ hc.out.c6; obtain ⟨q0, q1, q2, q3, q4⟩ := ofive H2.out.2.1; have t0 := CallC.cell H2.out.2.2.1 15 _ hc.out.b0; have t1 := CallC.cell H2.out.2.2.1 16 _ hc.out.b1; have t2 := CallC.cell H2.out.2.2.1 17 _ hc.out.b2; have t3 := CallC.cell H2.out.2.2.1 18 _ hc.out.b3; have t4 := CallC.cell H2.out.2.2.1 19 _ hc.out.b4; go_upto_region 6 with fail; go_wp2_with (first | (go_at_call 163; (with_reducible refine (count_is true _).mono ?_); rintro e w3 ⟨rfl, rfl⟩) | (go_at_call 133; (with_reducible refine (owords_one (cnt01 true) w2.heap.size 1 _ (by simp)).mono ?_); rintro e w4 ⟨rfl, hb⟩; have HB4 : Hid (Below wA.heap.size wA w4) := Lib.hid ((H2.out.1.alloc H2.out.1.size _).trans (hb.mono (Nat.le_trans H2.out.1.size (by simp)))); have HT := Lib.hid (nthere_below HA.out.2.2.1 HB4.out HA.out.2.2.2.2); clear hb) | (refine wpList_store_mid (by rfl) _ _ _ (by rfl) R 0 ([.int .u32 0, .int .u32 (cnt01 true), .int .u32 0, .int .u32 0, .int .i64 0, .int .i64 0, .int .i64 0, .int .i64 0, .int .u32 0, .int .i64 0, .int .i64 0, .int .i64 0, .int .i64 0, .int .u32 0, .int .i64 0, .int .i64 0, .int .i64 0, .int .i64 0, .int .u32 0] : List Value).toArray (by rfl) (by rfl) HT.out infoNote (note_one _ _ _ _ _ _ _ _ _ _ _ _ _ _ _ _ _ _ _) ?_)); generalize hS : World.setCells w4 _ _ _ = wS; have hRn : w.heap.size ≤ R := (by have := HA.out.2.2.2.1; have := HCl.out; omega); have HS : Hid (Below w.heap.size w wS ∧ wS.rangeAt R 0 [.int .u32 0, .int .u32 (cnt01 true), .int .u32 0, .int .u32 0, .int .i64 0, .int .i64 0, .int .i64 0, .int .i64 0, .int .u32 0, .int .i64 0, .int .i64 0, .int .i64 0, .int .i64 0, .int .u32 0, .int .i64 0, .int .i64 0, .int .i64 0, .int .i64 0, .int .u32 0]) := Lib.hid (by rw [← hS]; exact ⟨nbelow_cells (HA.out.1.trans ((HB4).out.mono HA.out.1.size)) hRn _ _, World.rangeAt_setCells_same w4 R 0 [.int .u32 0, .int .u32 (cnt01 true), .int .u32 0, .int .u32 0, .int .i64 0, .int .i64 0, .int .i64 0, .int .i64 0, .int .u32 0, .int .i64 0, .int .i64 0, .int .i64 0, .int .i64 0, .int .u32 0, .int .i64 0, .int .i64 0, .int .i64 0, .int .i64 0, .int .u32 0] HT.out⟩); have hld := nload rfl HS.out.2; refine bodyPost_ret (v := (Value.agg #[.int .u32 0, .int .u32 (cnt01 true), .int .u32 0, .int .u32 0, .int .i64 0, .int .i64 0, .int .i64 0, .int .i64 0, .int .u32 0, .int .i64 0, .int .i64 0, .int .i64 0, .int .i64 0, .int .u32 0, .int .i64 0, .int .i64 0, .int .i64 0, .int .i64 0, .int .u32 0])) (by simp [results, Tryz.results121, Act.put, asAddr, hld]) rfl ⟨rfl, HS.out.1⟩
theorem jkeep {w : World} {J R : Nat} {l : List Value} (h : (World.cell? w ⟨J, 0, none⟩ = some (.int .i64 m0) ∧ World.cell? w ⟨J, 1, none⟩ = some (.int .i64 m1) ∧ World.cell? w ⟨J, 2, none⟩ = some (.int .i64 m2) ∧ World.cell? w ⟨J, 3, none⟩ = some (.int .i64 m3) ∧ World.cell? w ⟨J, 4, none⟩ = some (.int .u32 m4))) (hne : J ≠ R) (o : Nat) : (World.cell? (w.setCells R o l) ⟨J, 0, none⟩ = some (.int .i64 m0) ∧ World.cell? (w.setCells R o l) ⟨J, 1, none⟩ = some (.int .i64 m1) ∧ World.cell? (w.setCells R o l) ⟨J, 2, none⟩ = some (.int .i64 m2) ∧ World.cell? (w.setCells R o l) ⟨J, 3, none⟩ = some (.int .i64 m3) ∧ World.cell? (w.setCells R o l) ⟨J, 4, none⟩ = some (.int .u32 m4)) := by
  have hap : ∀ (j : Nat) (v : Value), w.cell? ⟨J, j, none⟩ = some v → (w.setCells R o l).cell? ⟨J, j, none⟩ = some v := fun j v hv => by
    rw [World.cell?_setCells_out R l o w ⟨J, j, none⟩ (fun hb _ => absurd hb hne)]
    exact hv
  exact ⟨hap _ _ h.1, hap _ _ h.2.1, hap _ _ h.2.2.1, hap _ _ h.2.2.2.1, hap _ _ h.2.2.2.2⟩
set_option maxRecDepth 100000 in
set_option maxHeartbeats 8000000 in
theorem cjudge_0 (t u : Bool) (hm : 0 ≤ m0 ∧ m0 ≤ 14) (hs : Hid (∀ W, Calls Tryz.prog 164 #[(Value.agg #[.int .i64 m0, .int .i64 m1, .int .i64 m2, .int .i64 m3, .int .u32 m4])] W fun e w' => e = .returned (.bool t) ∧ Below W.heap.size W w')) (hu : Hid (∀ W, Calls Tryz.prog 165 #[(Value.agg #[.int .i64 m0, .int .i64 m1, .int .i64 m2, .int .i64 m3, .int .u32 m4])] W fun e w' => e = .returned (.bool u) ∧ Below W.heap.size W w')) (hc : Hid (CallJ cs s 0 m0 m1 m2 m3 m4 n0 n1 n2 n3 n4)) (w : World) :
    Calls Tryz.prog 121 #[.agg cs.toArray] w fun e w' => e = .returned (Value.agg #[.int .u32 0, .int .u32 m0, .int .u32 (cnt01 t), .int .u32 (cnt01 u), .int .i64 0, .int .i64 0, .int .i64 0, .int .i64 0, .int .u32 0, .int .i64 0, .int .i64 0, .int .i64 0, .int .i64 0, .int .u32 0, .int .i64 0, .int .i64 0, .int .i64 0, .int .i64 0, .int .u32 0]) ∧ Below w.heap.size w w' := by
  have hw : IntKind.u32.wrap m0 = m0 := by rw [IntKind.wrap_u32]; omega
  go_enter Tryz.func121, Tryz.ntmps121; go_upto_region 1 with fail; generalize hA : World.alloc w _ = wK; obtain ⟨C, hC⟩ : ∃ C, C = w.heap.size := ⟨_, rfl⟩; have HK : Hid (Below w.heap.size w wK ∧ wK.rangeAt C 0 cs ∧ wK.heap.size = C + 1) := Lib.hid (by rw [← hA, hC]; exact ⟨(Below.refl _ _).alloc (Nat.le_refl _) _, cbox _ _ _, by simp⟩); have HCl : Hid (w.heap.size ≤ C) := Lib.hid (by rw [hC]; exact Nat.le_refl _); rw [← hC]; clear hA hC; generalize hA : World.alloc wK _ = wA; obtain ⟨R, hR⟩ : ∃ R, R = C + 1 := ⟨_, rfl⟩; have HA : Hid (Below w.heap.size w wA ∧ wA.rangeAt C 0 cs ∧ World.there wA R 0 19 ∧ C < R ∧ R < wA.heap.size) := Lib.hid (by rw [← hA, hR, ← HK.out.2.2]; exact ⟨HK.out.1.alloc HK.out.1.size _, range_below HK.out.2.1 ((Below.refl _ _).alloc (Nat.le_refl _) _) (by have := HK.out.2.2; omega), nthere_new _ _ 19 (by rfl) _, by have := HK.out.2.2; omega, by simp⟩); rw [← hR]; clear hA hR; go_upto_region 2 with (first | (refine wpList_load_mid (by rfl) _ _ (by rfl) C 0 (by rfl) cs _ HA.out.2.1 Tryz.underlying129 rfl (by rw [hc.out.len]; exact infoCall) ?_) | (go_at_call 139; (with_reducible refine (osent_is hc _).mono ?_); rintro e w1 ⟨rfl, hb⟩; have HB1 : Hid (Below wA.heap.size wA w1) := Lib.hid hb; clear hb)); generalize hA : World.alloc w1 _ = w2; obtain ⟨J, hJ⟩ : ∃ J, J = w1.heap.size := ⟨_, rfl⟩; have H2 : Hid (Below wA.heap.size wA w2 ∧ KeyC w2 J m0 m1 m2 m3 m4 ∧ w2.rangeAt C 0 cs ∧ World.there w2 R 0 19 ∧ R < w2.heap.size) := Lib.hid (by have hb2 : Below wA.heap.size wA w2 := (by rw [← hA]; exact HB1.out.alloc HB1.out.size _); exact ⟨hb2, by rw [← hA, hJ]; exact KeyC.new _ _ _ _ _ _ _, range_below HA.out.2.1 hb2 (Nat.lt_trans HA.out.2.2.2.1 HA.out.2.2.2.2), nthere_below HA.out.2.2.1 hb2 HA.out.2.2.2.2, Nat.lt_of_lt_of_le HA.out.2.2.2.2 hb2.size⟩); have HJR : Hid (wA.heap.size ≤ J) := Lib.hid (by rw [hJ]; exact HB1.out.size); rw [← hJ]; clear hA hJ; have g6 := CallC.cell H2.out.2.2.1 6 _ hc.out.c6; obtain ⟨q0, q1, q2, q3, q4⟩ := ofive H2.out.2.1
  go_upto_region 4 with fail
  have HP2 : Hid (Below w.heap.size w w2) := Lib.hid (HA.out.1.trans (H2.out.1.mono HA.out.1.size))
  have hRn : w.heap.size ≤ R := by have := HA.out.2.2.2.1; have := HCl.out; omega
  have hJR : J ≠ R := by have := HJR.out; have := HA.out.2.2.2.2; omega
  have HS1 : Hid (∀ W, Below w2.heap.size w2 W → (World.cell? W ⟨J, 0, none⟩ = some (.int .i64 m0) ∧ World.cell? W ⟨J, 1, none⟩ = some (.int .i64 m1) ∧ World.cell? W ⟨J, 2, none⟩ = some (.int .i64 m2) ∧ World.cell? W ⟨J, 3, none⟩ = some (.int .i64 m3) ∧ World.cell? W ⟨J, 4, none⟩ = some (.int .u32 m4))) := Lib.hid (fun W hW => ofive (H2.out.2.1.below hW))
  go_cut [] (fun wx => wx.rangeAt R 0 [.int .u32 0, .int .u32 m0, .int .u32 (cnt01 t), .int .u32 (cnt01 u), .int .i64 0, .int .i64 0, .int .i64 0, .int .i64 0, .int .u32 0, .int .i64 0, .int .i64 0, .int .i64 0, .int .i64 0, .int .u32 0, .int .i64 0, .int .i64 0, .int .i64 0, .int .i64 0, .int .u32 0] ∧ Below w.heap.size w wx)
  case first =>
    obtain ⟨wD, hwD⟩ : ∃ wD, wD = w2.drew := ⟨_, rfl⟩
    have HBd : Hid (Below w2.heap.size w2 wD) := Lib.hid (by rw [hwD]; exact (Below.refl _ _).drew)
    refine wp_region_noPanic ?_
    refine wp_region_held_drew (S := fun w' => (World.cell? w' ⟨J, 0, none⟩ = some (.int .i64 m0) ∧ World.cell? w' ⟨J, 1, none⟩ = some (.int .i64 m1) ∧ World.cell? w' ⟨J, 2, none⟩ = some (.int .i64 m2) ∧ World.cell? w' ⟨J, 3, none⟩ = some (.int .i64 m3) ∧ World.cell? w' ⟨J, 4, none⟩ = some (.int .u32 m4))) (by kernel_rfl) (by rw [← hwD]; exact HS1.out _ HBd.out) (fun hHeld => ?_)
    rw [← hwD] at hHeld ⊢
    clear hwD
    refine wpAnyH_take (i := 0) (v := ?_) (by rfl) (by kernel_rfl) (by kernel_rfl) (by kernel_rfl) (fun _ _ _ h => h) (Or.inl ⟨by kernel_rfl, ?_⟩) (by assumption) ?_; rotate_left 1; (focus (intro w hSw; (try dsimp only at hSw); simp only [List.getElem_toArray, List.getElem_cons_succ, List.getElem_cons_zero]; all_goals go_simp; all_goals (try with_reducible rfl))); (try simp only [Act.put, List.getElem_toArray, List.getElem_cons_succ, List.getElem_cons_zero, List.setIfInBounds_toArray, List.set_cons_zero, List.set_cons_succ])
    refine wpAnyH_take (i := 1) (v := ?_) (by rfl) (by kernel_rfl) (by kernel_rfl) (by kernel_rfl) (fun _ _ _ h => h) (Or.inl ⟨by kernel_rfl, ?_⟩) (by assumption) ?_; rotate_left 1; (focus (intro w hSw; (try dsimp only at hSw); simp only [List.getElem_toArray, List.getElem_cons_succ, List.getElem_cons_zero]; all_goals go_simp; all_goals (try with_reducible rfl))); (try simp only [Act.put, List.getElem_toArray, List.getElem_cons_succ, List.getElem_cons_zero, List.setIfInBounds_toArray, List.set_cons_zero, List.set_cons_succ])
    refine wpAnyH_take (i := 2) (v := ?_) (by rfl) (by kernel_rfl) (by kernel_rfl) (by kernel_rfl) (fun _ _ _ h => h) (Or.inl ⟨by kernel_rfl, ?_⟩) (by assumption) ?_; rotate_left 1; (focus (intro w hSw; (try dsimp only at hSw); simp only [List.getElem_toArray, List.getElem_cons_succ, List.getElem_cons_zero]; all_goals go_simp; all_goals (try with_reducible rfl))); (try simp only [Act.put, List.getElem_toArray, List.getElem_cons_succ, List.getElem_cons_zero, List.setIfInBounds_toArray, List.set_cons_zero, List.set_cons_succ])
    refine wpAnyH_take (i := 3) (v := ?_) (by rfl) (by kernel_rfl) (by kernel_rfl) (by kernel_rfl) (fun _ _ _ h => h) (Or.inl ⟨by kernel_rfl, ?_⟩) (by assumption) ?_; rotate_left 1; (focus (intro w hSw; (try dsimp only at hSw); simp only [List.getElem_toArray, List.getElem_cons_succ, List.getElem_cons_zero]; all_goals go_simp; all_goals (try with_reducible rfl))); (try simp only [Act.put, List.getElem_toArray, List.getElem_cons_succ, List.getElem_cons_zero, List.setIfInBounds_toArray, List.set_cons_zero, List.set_cons_succ])
    refine wpAnyH_take (i := 6) (v := ?_) (by rfl) (by kernel_rfl) (by kernel_rfl) (by kernel_rfl) (fun _ _ _ h => h) (Or.inl ⟨by kernel_rfl, ?_⟩) (by assumption) ?_; rotate_left 1; (focus (intro w hSw; (try dsimp only at hSw); simp only [List.getElem_toArray, List.getElem_cons_succ, List.getElem_cons_zero]; all_goals go_simp; all_goals (try with_reducible rfl))); (try simp only [Act.put, List.getElem_toArray, List.getElem_cons_succ, List.getElem_cons_zero, List.setIfInBounds_toArray, List.set_cons_zero, List.set_cons_succ])
    refine wpAnyH_ready (rs := [4]) (by kernel_rfl) (by simp) ?_; refine AllReadyH.cons (by rfl) (fun K hK => ?_) AllReadyH.nil; rw [if_pos (by kernel_rfl)]; simp only [List.getElem_toArray, List.getElem_cons_succ, List.getElem_cons_zero]
    go_wp2_with (first | (go_at_call 164; (with_reducible refine (hs.out _).mono ?_); rintro e w3 ⟨rfl, hb⟩; have H3 : Hid (Below w2.heap.size w2 w3) := Lib.hid ((HBd).out.trans (hb.mono (HBd).out.size)); clear hb) | (go_at_call 165; (with_reducible refine (hu.out _).mono ?_); rintro e w3 ⟨rfl, hb⟩; have H3 : Hid (Below w2.heap.size w2 w3) := Lib.hid ((HBd).out.trans (hb.mono (HBd).out.size)); clear hb)); refine hK.out _ _ (HS1.out _ (H3).out) (fun hHeld => ?_); clear hK K; (try simp only [Act.put, List.getElem_toArray, List.getElem_cons_succ, List.getElem_cons_zero, List.setIfInBounds_toArray, List.set_cons_zero, List.set_cons_succ])
    refine wpAnyH_ready (rs := [5]) (by kernel_rfl) (by simp) ?_; refine AllReadyH.cons (by rfl) (fun K hK => ?_) AllReadyH.nil; rw [if_pos (by kernel_rfl)]; simp only [List.getElem_toArray, List.getElem_cons_succ, List.getElem_cons_zero]
    go_wp2_with (first | (go_at_call 163; (with_reducible refine (count_is _ _).mono ?_); rintro e wz ⟨rfl, rfl⟩)); refine hK.out _ _ (HS1.out _ (H3).out) (fun hHeld => ?_); clear hK K; (try simp only [Act.put, List.getElem_toArray, List.getElem_cons_succ, List.getElem_cons_zero, List.setIfInBounds_toArray, List.set_cons_zero, List.set_cons_succ])
    refine wpAnyH_ready (rs := [7]) (by kernel_rfl) (by simp) ?_; refine AllReadyH.cons (by rfl) (fun K hK => ?_) AllReadyH.nil; rw [if_pos (by kernel_rfl)]; simp only [List.getElem_toArray, List.getElem_cons_succ, List.getElem_cons_zero]
    go_wp2_with (first | (go_at_call 164; (with_reducible refine (hs.out _).mono ?_); rintro e w4 ⟨rfl, hb⟩; have H4 : Hid (Below w2.heap.size w2 w4) := Lib.hid ((H3).out.trans (hb.mono (H3).out.size)); clear hb) | (go_at_call 165; (with_reducible refine (hu.out _).mono ?_); rintro e w4 ⟨rfl, hb⟩; have H4 : Hid (Below w2.heap.size w2 w4) := Lib.hid ((H3).out.trans (hb.mono (H3).out.size)); clear hb)); refine hK.out _ _ (HS1.out _ (H4).out) (fun hHeld => ?_); clear hK K; (try simp only [Act.put, List.getElem_toArray, List.getElem_cons_succ, List.getElem_cons_zero, List.setIfInBounds_toArray, List.set_cons_zero, List.set_cons_succ])
    refine wpAnyH_ready (rs := [8]) (by kernel_rfl) (by simp) ?_; refine AllReadyH.cons (by rfl) (fun K hK => ?_) AllReadyH.nil; rw [if_pos (by kernel_rfl)]; simp only [List.getElem_toArray, List.getElem_cons_succ, List.getElem_cons_zero]
    go_wp2_with (first | (go_at_call 163; (with_reducible refine (count_is _ _).mono ?_); rintro e wz ⟨rfl, rfl⟩)); refine hK.out _ _ (HS1.out _ (H4).out) (fun hHeld => ?_); clear hK K; (try simp only [Act.put, List.getElem_toArray, List.getElem_cons_succ, List.getElem_cons_zero, List.setIfInBounds_toArray, List.set_cons_zero, List.set_cons_succ])
    refine wpAnyH_ready (rs := [9]) (by kernel_rfl) (by simp) ?_; refine AllReadyH.cons (by rfl) (fun K hK => ?_) AllReadyH.nil; rw [if_pos (by kernel_rfl)]; simp only [List.getElem_toArray, List.getElem_cons_succ, List.getElem_cons_zero]; go_wp2_with fail; generalize hE : World.alloc w4 _ = wE; obtain ⟨g, hg⟩ : ∃ g, g = w4.heap.size := ⟨_, rfl⟩; have HE : Hid (Below w2.heap.size w2 wE ∧ wE.rangeAt g 0 [.int .u32 m0, .int .u32 (cnt01 t), .int .u32 (cnt01 u)]) := Lib.hid (by rw [← hE, hg]; exact ⟨(H4).out.alloc (H4).out.size _, fun j v hv => by simpa using hv⟩); rw [← hg]; clear hE hg; refine hK.out _ _ (HS1.out _ HE.out.1) (fun hHeld => ?_); clear hK K; (try simp only [Act.put, List.getElem_toArray, List.getElem_cons_succ, List.getElem_cons_zero, List.setIfInBounds_toArray, List.set_cons_zero, List.set_cons_succ]); refine wpAnyH_ready (rs := [10]) (by kernel_rfl) (by simp) ?_; refine AllReadyH.cons (by rfl) (fun K hK => ?_) AllReadyH.nil; rw [if_pos (by kernel_rfl)]; simp only [List.getElem_toArray, List.getElem_cons_succ, List.getElem_cons_zero]; go_wp2_with (first | (go_at_call 133; (with_reducible refine (owords_three m0 (cnt01 t) (cnt01 u) g _ _ HE.out.2).mono ?_); rintro e w9 ⟨rfl, hb⟩; have HB9 : Hid (Below w2.heap.size w2 w9) := Lib.hid (HE.out.1.trans (hb.mono HE.out.1.size)); clear hb)); refine hK.out _ _ (HS1.out _ (HB9).out) (fun hHeld => ?_); clear hK K; (try simp only [Act.put, List.getElem_toArray, List.getElem_cons_succ, List.getElem_cons_zero, List.setIfInBounds_toArray, List.set_cons_zero, List.set_cons_succ]); have HT9 := Lib.hid (nthere_below H2.out.2.2.2.1 HB9.out H2.out.2.2.2.2); refine wpAnyH_ready (rs := [11]) (by kernel_rfl) (by simp) ?_; refine AllReadyH.cons (by rfl) (fun K hK => ?_) AllReadyH.nil; rw [if_pos (by kernel_rfl)]; simp only [List.getElem_toArray, List.getElem_cons_succ, List.getElem_cons_zero]; refine wp_store_mid 64 (Operand.tmp 2) (Operand.tmp 21) (by rfl) R 0 ([.int .u32 0, .int .u32 m0, .int .u32 (cnt01 t), .int .u32 (cnt01 u), .int .i64 0, .int .i64 0, .int .i64 0, .int .i64 0, .int .u32 0, .int .i64 0, .int .i64 0, .int .i64 0, .int .i64 0, .int .u32 0, .int .i64 0, .int .i64 0, .int .i64 0, .int .i64 0, .int .u32 0] : List Value).toArray (by rfl) (by rfl) HT9.out infoNote (note_one _ _ _ _ _ _ _ _ _ _ _ _ _ _ _ _ _ _ _) ?_; generalize hF : World.setCells w9 _ _ _ = wF; have HF : Hid (Below w2.heap.size w9 w9 ∧ wF.rangeAt R 0 [.int .u32 0, .int .u32 m0, .int .u32 (cnt01 t), .int .u32 (cnt01 u), .int .i64 0, .int .i64 0, .int .i64 0, .int .i64 0, .int .u32 0, .int .i64 0, .int .i64 0, .int .i64 0, .int .i64 0, .int .u32 0, .int .i64 0, .int .i64 0, .int .i64 0, .int .i64 0, .int .u32 0] ∧ Below w.heap.size w wF ∧ (World.cell? wF ⟨J, 0, none⟩ = some (.int .i64 m0) ∧ World.cell? wF ⟨J, 1, none⟩ = some (.int .i64 m1) ∧ World.cell? wF ⟨J, 2, none⟩ = some (.int .i64 m2) ∧ World.cell? wF ⟨J, 3, none⟩ = some (.int .i64 m3) ∧ World.cell? wF ⟨J, 4, none⟩ = some (.int .u32 m4))) := Lib.hid (by rw [← hF]; exact ⟨Below.refl _ _, World.rangeAt_setCells_same w9 R 0 [.int .u32 0, .int .u32 m0, .int .u32 (cnt01 t), .int .u32 (cnt01 u), .int .i64 0, .int .i64 0, .int .i64 0, .int .i64 0, .int .u32 0, .int .i64 0, .int .i64 0, .int .i64 0, .int .i64 0, .int .u32 0, .int .i64 0, .int .i64 0, .int .i64 0, .int .i64 0, .int .u32 0] HT9.out, nbelow_cells (HP2.out.trans (HB9.out.mono HP2.out.size)) hRn _ _, jkeep (HS1.out _ HB9.out) hJR _⟩); clear hF; refine hK.out _ _ HF.out.2.2.2 (fun hHeld => ?_); clear hK K; (try simp only [Act.put, List.getElem_toArray, List.getElem_cons_succ, List.getElem_cons_zero, List.setIfInBounds_toArray, List.set_cons_zero, List.set_cons_succ]); refine wpAnyH_done (by kernel_rfl) ?_ _; refine NoPanic.normal ?_; go_wp2_with fail; go_meet; exact ⟨HF.out.2.1, HF.out.2.2.1⟩
  case rest =>
    obtain ⟨hr, hb⟩ := hcut
    go_wp2_with fail
    have hld := nload rfl hr
    refine bodyPost_ret (v := (Value.agg #[.int .u32 0, .int .u32 m0, .int .u32 (cnt01 t), .int .u32 (cnt01 u), .int .i64 0, .int .i64 0, .int .i64 0, .int .i64 0, .int .u32 0, .int .i64 0, .int .i64 0, .int .i64 0, .int .i64 0, .int .u32 0, .int .i64 0, .int .i64 0, .int .i64 0, .int .i64 0, .int .u32 0])) (by simp [results, Tryz.results121, Act.put, asAddr, hld]) rfl ⟨rfl, hb⟩
end
end Go.Proofs.YtncopdhhchmpeaaGreatDoor
namespace Go.Proofs.YtncopdhhchmpeaaGreatDoor
open Go.ChangeShapes Go.WideShapes Go.ChangeAt Go.RowKit
set_option linter.unusedVariables false
/-- q of the chain charged. -/
def decq (tk : Nat → Int) (j q : Nat) : Nat → Int := fun i => if j < i + q ∧ i ≤ j then tk i - 1 else tk i
end Go.Proofs.YtncopdhhchmpeaaGreatDoor
namespace Go.Proofs.YtncopdhhchmpeaaGreatDoor
open Go.ChangeShapes Go.WideShapes Go.ChangeAt Go.RowKit
set_option linter.unusedVariables false
set_option linter.unusedSimpArgs false
theorem own_same {w w' : World} {b T s n g c : Nat} {l : List Value} (h : w.ownsRow b T s (.slice (some ⟨g, 0, none⟩) n c) n l) (hb : w'.heap[g]? = w.heap[g]?) : w'.ownsRow b T s (.slice (some ⟨g, 0, none⟩) n c) n l := by
  refine ⟨h.1, ?_⟩
  rcases h.2 with hn | ⟨g1, cap, cur, hv, hB, hg, rest⟩
  · exact .inl hn
  · refine .inr ⟨g1, cap, cur, hv, hB, ?_, rest⟩
    have : g1 = g := by injection hv with e1 _ _; injection e1 with e1; injection e1 with e1; exact e1.symm
    rw [this] at hg ⊢
    rw [hb]
    exact hg
theorem MtAt.low {w w' : World} {N base P p B G n c : Nat} {th : Nat → Bool} {vr pr tk : Nat → Int} (h : MtAt w base P p B G n c th vr pr tk) (hb : Below N w w') (h1 : P < N) (h2 : p < N) (h3 : B < N) (h4 : G < N) : MtAt w' base P p B G n c th vr pr tk :=
  ⟨Nat.lt_of_lt_of_le h.pl hb.size, h.pb, (World.cell?_of_block (a := ⟨P, 0, none⟩) (hb.block P h1)).trans h.f0, (World.cell?_of_block (a := ⟨P, 1, none⟩) (hb.block P h1)).trans h.f1, h.ar.same2 hb.size (hb.block p h2) (hb.block B h3), own_same h.row (hb.block G h4), h.n1, h.n2, h.n3, h.n4⟩
/-- A system whose meters are those. -/
structure MS (w : World) (L : BLoc) (X : SLoc) (th : Nat → Bool) (vr pr tk : Nat → Int) : Prop where
  b : SyB w X.s L.mb L.dP X.tP L.P X.fP X.q 0
  t : MtAt w X.tB X.tP X.tp X.tR X.tG X.tn X.tn th vr pr tk
  ne : X.s ≠ X.tR ∧ X.s ≠ X.tG
  n8 : X.tn = 8
theorem SysNew.ms {w0 w : World} {L : BLoc} {X : SLoc} (h : SysNew w0 w L X) (h8 : X.tn = 8) : MS w L X (fun _ => false) (fun _ => 0) (fun _ => 0) (fun _ => 0) := by
  refine ⟨h.b, h.t, ⟨fun e => ?_, fun e => ?_⟩, h8⟩
  · have h1 := h.t.ar.at0 0 (by omega)
    rw [← e] at h1
    have h2 := h.b.c0
    rw [Nat.zero_mul, h2] at h1
    simp at h1
  · have h1 := h.t.at0 0 (by omega)
    rw [← e] at h1
    have h2 := h.b.c0
    rw [Nat.zero_mul, h2] at h1
    simp at h1
section
variable {w w' : World} {L : BLoc} {X : SLoc} {th th' : Nat → Bool} {vr vr' pr pr' tk tk' : Nat → Int}
/-- Every block that it reaches lies below N. -/
structure MLt (N : Nat) (X : SLoc) : Prop where
  s : X.s < N
  P : X.tP < N
  p : X.tp < N
  R : X.tR < N
  G : X.tG < N
theorem MLt.mono {N M : Nat} (h : MLt N X) (hl : N ≤ M) : MLt M X := ⟨Nat.lt_of_lt_of_le h.s hl, Nat.lt_of_lt_of_le h.P hl, Nat.lt_of_lt_of_le h.p hl, Nat.lt_of_lt_of_le h.R hl, Nat.lt_of_lt_of_le h.G hl⟩
theorem MS.below (h : MS w L X th vr pr tk) (hb : Below w.heap.size w w') : MS w' L X th vr pr tk := ⟨h.b.below hb, h.t.below hb, h.ne, h.n8⟩
theorem MS.low {N : Nat} (h : MS w L X th vr pr tk) (hb : Below N w w') (hl : MLt N X) : MS w' L X th vr pr tk := ⟨h.b.same hb.size (hb.block X.s hl.s), h.t.low hb hl.P hl.p hl.R hl.G, h.ne, h.n8⟩
theorem MS.turn (h : MS w L X th vr pr tk) (ht : MtAt w' X.tB X.tP X.tp X.tR X.tG X.tn X.tn th' vr' pr' tk') (hb : PBelow w w' X.tR X.tG) : MS w' L X th' vr' pr' tk' := ⟨h.b.same hb.2.2.2.1 (hb.2.2.2.2 X.s h.b.lt h.ne.1 h.ne.2), ht, h.ne, h.n8⟩
end
/-- q of the chain charged. -/
def decx (z : Int) (tk : Nat → Int) (j q : Nat) : Nat → Int := fun i => if j < i + q ∧ i ≤ j then tk i - z else tk i
end Go.Proofs.YtncopdhhchmpeaaGreatDoor
namespace Go.Proofs.YtncopdhhchmpeaaGreatDoor
open Go.ChangeShapes Go.WideShapes Go.ChangeAt Go.RowKit
set_option linter.unusedVariables false
set_option linter.unusedSimpArgs false
section
variable {L : BLoc} {X : SLoc} {th : Nat → Bool} {vr pr tk : Nat → Int} {cs : List Value} {id v0 o x : Int}
end
end Go.Proofs.YtncopdhhchmpeaaGreatDoor
namespace Go.Proofs.YtncopdhhchmpeaaGreatDoor
open Go.ChangeShapes Go.WideShapes Go.ChangeAt Go.RowKit
set_option linter.unusedVariables false
set_option linter.unusedSimpArgs false
section
variable {cs nt : List Value} {s N : Nat} {k1 k2 k3 k4 o x : Int} {Q : World → Prop}
set_option maxRecDepth 100000 in
set_option maxHeartbeats 2000000 in
theorem oanswer_void (hc : Hid (CallC cs s 0 k1 k2 k3 k4 o x)) (w : World) :
    Calls Tryz.prog 81 #[(.agg cs.toArray)] w fun e w' => e = .returned (Value.agg #[.int .u32 1, .int .u32 0, .int .u32 0, .int .u32 0, .int .i64 0, .int .i64 0, .int .i64 0, .int .i64 0, .int .u32 0, .int .i64 0, .int .i64 0, .int .i64 0, .int .i64 0, .int .u32 0, .int .i64 0, .int .i64 0, .int .i64 0, .int .i64 0, .int .u32 0]) ∧ Below w.heap.size w w' := by
  go_enter Tryz.func81, Tryz.ntmps81; go_upto_region 1 with fail; generalize hA : World.alloc w _ = wK; obtain ⟨C, hC⟩ : ∃ C, C = w.heap.size := ⟨_, rfl⟩; have HK : Hid (Below w.heap.size w wK ∧ wK.rangeAt C 0 cs ∧ wK.heap.size = C + 1) := Lib.hid (by rw [← hA, hC]; exact ⟨(Below.refl _ _).alloc (Nat.le_refl _) _, cbox _ _ _, by simp⟩); have HCl : Hid (w.heap.size ≤ C) := Lib.hid (by rw [hC]; exact Nat.le_refl _); rw [← hC]; clear hA hC; generalize hA : World.alloc wK _ = wA; obtain ⟨R, hR⟩ : ∃ R, R = C + 1 := ⟨_, rfl⟩; have HA : Hid (Below w.heap.size w wA ∧ wA.rangeAt C 0 cs ∧ World.there wA R 0 19 ∧ C < R ∧ R < wA.heap.size) := Lib.hid (by rw [← hA, hR, ← HK.out.2.2]; exact ⟨HK.out.1.alloc HK.out.1.size _, range_below HK.out.2.1 ((Below.refl _ _).alloc (Nat.le_refl _) _) (by have := HK.out.2.2; omega), nthere_new _ _ 19 (by rfl) _, by have := HK.out.2.2; omega, by simp⟩); rw [← hR]; clear hA hR
  have q1 := CallC.cell HA.out.2.1 1 _ hc.out.c1
  go_upto_region 26 with fail
  go_wp2_with (first
    | (go_at_call 124; (with_reducible refine (ofails_is 1 (by decide) (by decide) _).mono ?_); rintro e w1 ⟨rfl, hb⟩; have HB1 := Lib.hid hb; have HT1 : Hid (World.there w1 R 0 19) := Lib.hid (nthere_below HA.out.2.2.1 hb HA.out.2.2.2.2); clear hb)
    | (refine wpList_store_mid (by rfl) _ _ _ (by rfl) R 0 ([.int .u32 1, .int .u32 0, .int .u32 0, .int .u32 0, .int .i64 0, .int .i64 0, .int .i64 0, .int .i64 0, .int .u32 0, .int .i64 0, .int .i64 0, .int .i64 0, .int .i64 0, .int .u32 0, .int .i64 0, .int .i64 0, .int .i64 0, .int .i64 0, .int .u32 0] : List Value).toArray (by rfl) (by rfl) HT1.out infoNote (note_one _ _ _ _ _ _ _ _ _ _ _ _ _ _ _ _ _ _ _) ?_))
  have hRn : w.heap.size ≤ R := by have := HA.out.2.2.2.1; have := HCl.out; omega
  generalize hS : World.setCells w1 _ _ _ = wS
  have HS : Hid (Below w.heap.size w wS ∧ wS.rangeAt R 0 [.int .u32 1, .int .u32 0, .int .u32 0, .int .u32 0, .int .i64 0, .int .i64 0, .int .i64 0, .int .i64 0, .int .u32 0, .int .i64 0, .int .i64 0, .int .i64 0, .int .i64 0, .int .u32 0, .int .i64 0, .int .i64 0, .int .i64 0, .int .i64 0, .int .u32 0]) := Lib.hid (by rw [← hS]; exact ⟨nbelow_cells (HA.out.1.trans (HB1.out.mono HA.out.1.size)) hRn _ _, World.rangeAt_setCells_same w1 R 0 [.int .u32 1, .int .u32 0, .int .u32 0, .int .u32 0, .int .i64 0, .int .i64 0, .int .i64 0, .int .i64 0, .int .u32 0, .int .i64 0, .int .i64 0, .int .i64 0, .int .i64 0, .int .u32 0, .int .i64 0, .int .i64 0, .int .i64 0, .int .i64 0, .int .u32 0] HT1.out⟩)
  have hld := nload rfl HS.out.2
  refine bodyPost_ret (v := (Value.agg #[.int .u32 1, .int .u32 0, .int .u32 0, .int .u32 0, .int .i64 0, .int .i64 0, .int .i64 0, .int .i64 0, .int .u32 0, .int .i64 0, .int .i64 0, .int .i64 0, .int .i64 0, .int .u32 0, .int .i64 0, .int .i64 0, .int .i64 0, .int .i64 0, .int .u32 0])) (by simp [results, Tryz.results81, Act.put, asAddr, hld]) rfl ⟨rfl, HS.out.1⟩
end
theorem slive_void (s : Nat) (w : World) : Calls Tryz.prog 21 #[.pointer (some ⟨s, 0, none⟩), .agg #[.int .i64 0, .int .i64 0, .int .i64 0, .int .i64 0, .int .u32 0]] w fun e w' => e = .returned (.bool true) ∧ Below w.heap.size w w' := by
  go_enter Tryz.func21, Tryz.ntmps21
  go_wp2_with fail
  go_ret
  exact ⟨rfl, (Below.refl _ _).alloc (Nat.le_refl _) _⟩
theorem oseen_void (s : Nat) (vs vr : Value) (w : World) (hE : ErrsAt vs vr w) : Calls Tryz.prog 23 #[.pointer (some ⟨s, 0, none⟩), (Value.agg #[.int .i64 0, .int .i64 0, .int .i64 0, .int .i64 0, .int .u32 0])] w fun e w' => e = .returned (Value.agg #[.int .i64 0, .int .i64 0, .int .i64 0, .int .i64 0, .int .u32 0]) ∧ Below w.heap.size w w' :=
  oseen_live 0 0 0 0 0 w (fun W hW => nvalid_ok 0 0 0 0 0 (Lib.hid (by decide)) vs vr W (hE.below hW)) (fun W hW => slive_void s W)
end Go.Proofs.YtncopdhhchmpeaaGreatDoor
namespace Go.Proofs.YtncopdhhchmpeaaGreatDoor
open Go.ChangeShapes Go.WideShapes Go.ChangeAt Go.RowKit
set_option linter.unusedVariables false
set_option linter.unusedSimpArgs false
/-- Is what a key names there? -/
def liveK (L : BLoc) (D : BSt) (k0 k1 k2 : Int) : Bool := if k0 = 4 then (thereB L.dn D.dt k1 && (D.dv k1.toNat == k2)) else (if k0 = 2 then (thereB L.a.n D.nt k1 && (D.nv k1.toNat == k2)) else if k0 = 3 then (thereB L.b.n D.pt k1 && (D.pv k1.toNat == k2)) else false)
theorem KeyC.k5 {w : World} {b : Nat} {k0 k1 k2 k3 k4 : Int} (h : KeyC w b k0 k1 k2 k3 k4) : (World.cell? w ⟨b, 0, none⟩ = some (.int .i64 k0) ∧ World.cell? w ⟨b, 1, none⟩ = some (.int .i64 k1) ∧ World.cell? w ⟨b, 2, none⟩ = some (.int .i64 k2) ∧ World.cell? w ⟨b, 3, none⟩ = some (.int .i64 k3) ∧ World.cell? w ⟨b, 4, none⟩ = some (.int .u32 k4)) := ⟨h.c0, h.c1, h.c2, h.c3, h.c4⟩
end Go.Proofs.YtncopdhhchmpeaaGreatDoor
namespace Go.Proofs.YtncopdhhchmpeaaGreatDoor
open Go.ChangeShapes Go.WideShapes Go.ChangeAt Go.RowKit
set_option linter.unusedVariables false
set_option linter.unusedSimpArgs false
/-- A title among the titles of a kind. -/
structure TiAt (w : World) (L : BLoc) (k0 : Int) (G j : Nat) (x y : Int) : Prop where
  hk : k0 = 2 ∧ G = L.G1 ∨ k0 = 3 ∧ G = L.G2 ∨ ¬ k0 = 2 ∧ ¬ k0 = 3 ∧ G = L.G3
  lt : G < w.heap.size
  c0 : w.cell? ⟨G, j * 2, none⟩ = some (.int .i64 x)
  c1 : w.cell? ⟨G, j * 2 + 1, none⟩ = some (.int .i64 y)
theorem TiAt.below {w w' : World} {L : BLoc} {k0 : Int} {G j : Nat} {x y : Int} (h : TiAt w L k0 G j x y) (hb : Below w.heap.size w w') : TiAt w' L k0 G j x y :=
  ⟨h.hk, Nat.lt_of_lt_of_le h.lt hb.size, (hb.cell (p := ⟨G, j * 2, none⟩) h.lt).trans h.c0, (hb.cell (p := ⟨G, j * 2 + 1, none⟩) h.lt).trans h.c1⟩
end Go.Proofs.YtncopdhhchmpeaaGreatDoor
namespace Go.Proofs.YtncopdhhchmpeaaGreatDoor
open Go.ChangeShapes Go.WideShapes Go.ChangeAt Go.RowKit Go.Maps
set_option linter.unusedVariables false
set_option linter.unusedSimpArgs false
theorem infoDomS : (Tryz.prog.info? 171).map (·.size) = some 107 := by kernel_rfl
end Go.Proofs.YtncopdhhchmpeaaGreatDoor
namespace Go.Proofs.YtncopdhhchmpeaaGreatDoor
open Go.ChangeShapes Go.WideShapes Go.ChangeAt Go.RowKit
set_option linter.unusedVariables false
set_option linter.unusedSimpArgs false
end Go.Proofs.YtncopdhhchmpeaaGreatDoor
namespace Go.Proofs.YtncopdhhchmpeaaGreatDoor
open Go.ChangeShapes Go.WideShapes Go.ChangeAt Go.RowKit
set_option linter.unusedVariables false
set_option linter.unusedSimpArgs false
theorem ErrsAt.up {vs vr : Value} {w w' : World} (h : ErrsAt vs vr w) (hb : Below w.heap.size w w') : ErrsAt vs vr w' := h.below hb
def boughtN (D : BSt) (q j : Nat) (v : Int) (nW : Nat → Nat → Value) : BSt := { D with nt := upd D.nt j true, nW := nW, us := addL D.us (chL D.pr q) 1, o1 := upd D.o1 j q, v1 := upd D.v1 j v }
/-- Keys that are handed in lie apart. -/
def SrcV (L : BLoc) (w : World) (a : Option Addr) (m : Nat) (kk : Nat → Nat → Int) : Prop := ∀ W, Below w.heap.size w W → ∀ B G, (B < L.T ∨ w.heap.size ≤ B) → (G < L.T ∨ w.heap.size ≤ G) → SrcK W a m kk B G
theorem SrcV.run {L : BLoc} {w : World} {a : Option Addr} {m : Nat} {kk : Nat → Nat → Int} (h : SrcV L w a m kk) (W : World) (hb : Below w.heap.size w W) (B G : Nat) (hB : B < L.T ∨ w.heap.size ≤ B) (hG : G < L.T ∨ w.heap.size ≤ G) : SrcK W a m kk B G := h W hb B G hB hG
theorem srcv_none (L : BLoc) (w : World) (kk : Nat → Nat → Int) : SrcV L w none 0 kk := fun _ _ _ _ _ _ => ⟨fun j hj => by omega⟩
set_option maxRecDepth 100000 in
theorem bnodeof_ok (vs vr : Value) (a : Option Addr) (m c2 : Nat) (kk : Nat → Nat → Int) (hk : Hid (∀ i, i < m → KRight kk i)) (hx : m ≤ 16) (w : World) (hE : ErrsAt vs vr w) (hs : ∀ B G, w.heap.size ≤ B → w.heap.size ≤ G → SrcK w a m kk B G) :
    Calls Tryz.prog 50 #[.slice a m c2] w fun e w' => e = .returned .nilIface ∧ Below w.heap.size w w' := by
  have HS := Lib.hid hs
  have HE := Lib.hid hE
  clear hs hE
  go_enter Tryz.func50, Tryz.ntmps50
  go_wp2_with (first
    | (go_at_call 91; (with_reducible refine (nnew_ok 1 1 (Lib.hid rfl) (by decide) (by decide) _).mono ?_); rintro e w1 ⟨P, p, B, G, rfl, hP, hb⟩; have HP := Lib.hid hP; have HB := Lib.hid hb; have HS1 := Lib.hid ((HS.out B G hP.ar.lt.1 (hP.row.lt G rfl).1).below hb); have HE1 := Lib.hid (HE.out.up hb); clear hP hb)
    | (go_at_call 52; (with_reducible refine (nmake_at 0 vs vr a m c2 kk hx hk 0 (Lib.hid rfl) (by decide) (Lib.hid (by decide)) (Lib.hid (by intro i hi; omega)) 0 (Lib.hid rfl) _ HE1.out HP.out HS1.out).mono ?_); rintro e w2 ⟨rfl, hP2, hb2⟩; have HB2 := Lib.hid (HB.out.trans (hb2.below (b := w.heap.size) HP.out.ar.lt.1 (HP.out.row.lt G rfl).1 HB.out.size)); clear hP2 hb2))
  go_ret
  exact ⟨rfl, HB2.out⟩
set_option maxRecDepth 100000 in
set_option maxHeartbeats 1000000 in
theorem bndcl_ok {w0 : World} {L : BLoc} {D : BSt} (x y : Nat) (vs vr : Value) (a : Option Addr) (m c2 : Nat) (kk : Nat → Nat → Int) (hk : Hid (∀ i, i < m → KRight kk i)) (hx : m ≤ 16) (j : Nat) (hj : j < L.a.n) (hyes : Hid (freeB D.nt D.nv j = true)) (hno : Hid (∀ i, i < j → freeB D.nt D.nv i = false)) (v : Int) (hv : Hid (D.nv j = v)) (w : World) (h : BW w0 w L D) (hxy : L.T ≤ x ∧ x < w.heap.size ∧ L.T ≤ y ∧ y < w.heap.size) (cx : w.cell? ⟨x, 0, none⟩ = some (.pointer (some ⟨L.P, 0, none⟩))) (cy : w.cell? ⟨y, 0, none⟩ = some (.slice a m c2)) (hE : ErrsAt vs vr w) (hs : SrcK w a m kk L.a.B L.a.G) :
    Calls Tryz.prog 51 #[.pointer (some ⟨x, 0, none⟩), .pointer (some ⟨y, 0, none⟩)] w fun e w' => e = .returned (.tuple #[.int .i64 j, .int .i64 v, .nilIface]) ∧ BW w0 w' L { D with nt := upd D.nt j true, nW := freshV D.nW j (kcs kk m) } ∧ PBelow w w' L.a.B L.a.G := by
  obtain ⟨wD, hwD⟩ : ∃ wD, wD = w.drew := ⟨_, rfl⟩
  have hbD : Below w.heap.size w wD := by rw [hwD]; exact (Below.refl _ _).drew
  have HD := Lib.hid (h.below hbD)
  have HSr := Lib.hid (hs.below hbD)
  have HEd := Lib.hid (hE.up hbD)
  have HBD := Lib.hid (PBelow.of_below (B := L.a.B) (G := L.a.G) hbD)
  have HS7 : Hid (∀ W, BW w0 W L { D with nt := upd D.nt j true, nW := freshV D.nW j (kcs kk m) } → UpT L.T w W → (World.cell? W ⟨x, 0, none⟩ = some (.pointer (some ⟨L.P, 0, none⟩)) ∧ World.cell? W ⟨L.P, 1, none⟩ = some (.pointer (some ⟨L.mb, 0, none⟩)) ∧ World.cell? W ⟨L.mb, 0, none⟩ = some (.pointer (some ⟨L.S, 0, none⟩)) ∧ World.cell? W ⟨L.S, 0, none⟩ = some (.pointer (some ⟨L.a.P, 0, none⟩)) ∧ World.cell? W ⟨y, 0, none⟩ = some (.slice a m c2))) := Lib.hid (fun W hW hu => ⟨(World.cell?_of_block (a := ⟨x, 0, none⟩) (hu.2 x hxy.1 hxy.2.1)).trans cx, hW.kk.f1, hW.mm.m0, hW.mm.sv.st.s0, (World.cell?_of_block (a := ⟨y, 0, none⟩) (hu.2 y hxy.2.2.1 hxy.2.2.2)).trans cy⟩)
  have hS0 : (World.cell? wD ⟨x, 0, none⟩ = some (.pointer (some ⟨L.P, 0, none⟩)) ∧ World.cell? wD ⟨L.P, 1, none⟩ = some (.pointer (some ⟨L.mb, 0, none⟩)) ∧ World.cell? wD ⟨L.mb, 0, none⟩ = some (.pointer (some ⟨L.S, 0, none⟩)) ∧ World.cell? wD ⟨L.S, 0, none⟩ = some (.pointer (some ⟨L.a.P, 0, none⟩)) ∧ World.cell? wD ⟨y, 0, none⟩ = some (.slice a m c2)) := ⟨(hbD.cell (p := ⟨x, 0, none⟩) hxy.2.1).trans cx, HD.out.kk.f1, HD.out.mm.m0, HD.out.mm.sv.st.s0, (hbD.cell (p := ⟨y, 0, none⟩) hxy.2.2.2).trans cy⟩
  have HLT := Lib.hid h.lowT
  clear h hs cx cy hbD hE
  go_enter Tryz.func51, Tryz.ntmps51
  go_upto_region 1 with fail
  refine wp_region_noPanic ?_
  refine wp_region_held_drew (S := fun w' => (World.cell? w' ⟨x, 0, none⟩ = some (.pointer (some ⟨L.P, 0, none⟩)) ∧ World.cell? w' ⟨L.P, 1, none⟩ = some (.pointer (some ⟨L.mb, 0, none⟩)) ∧ World.cell? w' ⟨L.mb, 0, none⟩ = some (.pointer (some ⟨L.S, 0, none⟩)) ∧ World.cell? w' ⟨L.S, 0, none⟩ = some (.pointer (some ⟨L.a.P, 0, none⟩)) ∧ World.cell? w' ⟨y, 0, none⟩ = some (.slice a m c2))) (by kernel_rfl) (by rw [← hwD]; exact hS0) (fun hHeld => ?_)
  rw [← hwD] at hHeld ⊢
  clear hwD hS0
  refine wpAnyH_take (i := 0) (v := ?_) (by rfl) (by kernel_rfl) (by kernel_rfl) (by kernel_rfl) (fun _ _ _ h => h) (Or.inl ⟨by kernel_rfl, ?_⟩) (by assumption) ?_; rotate_left 1; (focus (intro w hSw; (try dsimp only at hSw); simp only [List.getElem_toArray, List.getElem_cons_succ, List.getElem_cons_zero]; all_goals go_simp; all_goals (try with_reducible rfl))); (try simp only [Act.put, List.getElem_toArray, List.getElem_cons_succ, List.getElem_cons_zero, List.setIfInBounds_toArray, List.set_cons_zero, List.set_cons_succ])
  refine wpAnyH_take (i := 1) (v := ?_) (by rfl) (by kernel_rfl) (by kernel_rfl) (by kernel_rfl) (fun _ _ _ h => h) (Or.inl ⟨by kernel_rfl, ?_⟩) (by assumption) ?_; rotate_left 1; (focus (intro w hSw; (try dsimp only at hSw); simp only [List.getElem_toArray, List.getElem_cons_succ, List.getElem_cons_zero]; all_goals go_simp; all_goals (try with_reducible rfl))); (try simp only [Act.put, List.getElem_toArray, List.getElem_cons_succ, List.getElem_cons_zero, List.setIfInBounds_toArray, List.set_cons_zero, List.set_cons_succ])
  refine wpAnyH_take (i := 2) (v := ?_) (by rfl) (by kernel_rfl) (by kernel_rfl) (by kernel_rfl) (fun _ _ _ h => h) (Or.inl ⟨by kernel_rfl, ?_⟩) (by assumption) ?_; rotate_left 1; (focus (intro w hSw; (try dsimp only at hSw); simp only [List.getElem_toArray, List.getElem_cons_succ, List.getElem_cons_zero]; all_goals go_simp; all_goals (try with_reducible rfl))); (try simp only [Act.put, List.getElem_toArray, List.getElem_cons_succ, List.getElem_cons_zero, List.setIfInBounds_toArray, List.set_cons_zero, List.set_cons_succ])
  refine wpAnyH_take (i := 3) (v := ?_) (by rfl) (by kernel_rfl) (by kernel_rfl) (by kernel_rfl) (fun _ _ _ h => h) (Or.inl ⟨by kernel_rfl, ?_⟩) (by assumption) ?_; rotate_left 1; (focus (intro w hSw; (try dsimp only at hSw); simp only [List.getElem_toArray, List.getElem_cons_succ, List.getElem_cons_zero]; all_goals go_simp; all_goals (try with_reducible rfl))); (try simp only [Act.put, List.getElem_toArray, List.getElem_cons_succ, List.getElem_cons_zero, List.setIfInBounds_toArray, List.set_cons_zero, List.set_cons_succ])
  refine wpAnyH_take (i := 4) (v := ?_) (by rfl) (by kernel_rfl) (by kernel_rfl) (by kernel_rfl) (fun _ _ _ h => h) (Or.inl ⟨by kernel_rfl, ?_⟩) (by assumption) ?_; rotate_left 1; (focus (intro w hSw; (try dsimp only at hSw); simp only [List.getElem_toArray, List.getElem_cons_succ, List.getElem_cons_zero]; all_goals go_simp; all_goals (try with_reducible rfl))); (try simp only [Act.put, List.getElem_toArray, List.getElem_cons_succ, List.getElem_cons_zero, List.setIfInBounds_toArray, List.set_cons_zero, List.set_cons_succ])
  refine wpAnyH_take (i := 5) (v := ?_) (by rfl) (by kernel_rfl) (by kernel_rfl) (by kernel_rfl) (fun _ _ _ h => h) (Or.inl ⟨by kernel_rfl, ?_⟩) (by assumption) ?_; rotate_left 1; (focus (intro w hSw; (try dsimp only at hSw); simp only [List.getElem_toArray, List.getElem_cons_succ, List.getElem_cons_zero]; all_goals go_simp; all_goals (try with_reducible rfl))); (try simp only [Act.put, List.getElem_toArray, List.getElem_cons_succ, List.getElem_cons_zero, List.setIfInBounds_toArray, List.set_cons_zero, List.set_cons_succ])
  refine wpAnyH_take (i := 6) (v := ?_) (by rfl) (by kernel_rfl) (by kernel_rfl) (by kernel_rfl) (fun _ _ _ h => h) (Or.inl ⟨by kernel_rfl, ?_⟩) (by assumption) ?_; rotate_left 1; (focus (intro w hSw; (try dsimp only at hSw); simp only [List.getElem_toArray, List.getElem_cons_succ, List.getElem_cons_zero]; all_goals go_simp; all_goals (try with_reducible rfl))); (try simp only [Act.put, List.getElem_toArray, List.getElem_cons_succ, List.getElem_cons_zero, List.setIfInBounds_toArray, List.set_cons_zero, List.set_cons_succ])
  refine wpAnyH_take (i := 7) (v := ?_) (by rfl) (by kernel_rfl) (by kernel_rfl) (by kernel_rfl) (fun _ _ _ h => h) (Or.inl ⟨by kernel_rfl, ?_⟩) (by assumption) ?_; rotate_left 1; (focus (intro w hSw; (try dsimp only at hSw); simp only [List.getElem_toArray, List.getElem_cons_succ, List.getElem_cons_zero]; all_goals go_simp; all_goals (try with_reducible rfl))); (try simp only [Act.put, List.getElem_toArray, List.getElem_cons_succ, List.getElem_cons_zero, List.setIfInBounds_toArray, List.set_cons_zero, List.set_cons_succ])
  refine wpAnyH_take (i := 8) (v := ?_) (by rfl) (by kernel_rfl) (by kernel_rfl) (by kernel_rfl) (fun _ _ _ h => h) (Or.inl ⟨by kernel_rfl, ?_⟩) (by assumption) ?_; rotate_left 1; (focus (intro w hSw; (try dsimp only at hSw); simp only [List.getElem_toArray, List.getElem_cons_succ, List.getElem_cons_zero]; all_goals go_simp; all_goals (try with_reducible rfl))); (try simp only [Act.put, List.getElem_toArray, List.getElem_cons_succ, List.getElem_cons_zero, List.setIfInBounds_toArray, List.set_cons_zero, List.set_cons_succ])
  refine wpAnyH_take (i := 9) (v := ?_) (by rfl) (by kernel_rfl) (by kernel_rfl) (by kernel_rfl) (fun _ _ _ h => h) (Or.inl ⟨by kernel_rfl, ?_⟩) (by assumption) ?_; rotate_left 1; (focus (intro w hSw; (try dsimp only at hSw); simp only [List.getElem_toArray, List.getElem_cons_succ, List.getElem_cons_zero]; all_goals go_simp; all_goals (try with_reducible rfl))); (try simp only [Act.put, List.getElem_toArray, List.getElem_cons_succ, List.getElem_cons_zero, List.setIfInBounds_toArray, List.set_cons_zero, List.set_cons_succ])
  refine wpAnyH_take (i := 10) (v := ?_) (by rfl) (by kernel_rfl) (by kernel_rfl) (by kernel_rfl) (fun _ _ _ h => h) (Or.inl ⟨by kernel_rfl, ?_⟩) (by assumption) ?_; rotate_left 1; (focus (intro w hSw; (try dsimp only at hSw); simp only [List.getElem_toArray, List.getElem_cons_succ, List.getElem_cons_zero]; all_goals go_simp; all_goals (try with_reducible rfl))); (try simp only [Act.put, List.getElem_toArray, List.getElem_cons_succ, List.getElem_cons_zero, List.setIfInBounds_toArray, List.set_cons_zero, List.set_cons_succ])
  refine wpAnyH_ready (rs := [11]) (by kernel_rfl) (by simp) ?_; refine AllReadyH.cons (by rfl) (fun K hK => ?_) AllReadyH.nil; rw [if_pos (by kernel_rfl)]; simp only [List.getElem_toArray, List.getElem_cons_succ, List.getElem_cons_zero]
  go_wp2_with (first
    | (go_at_call 52; (with_reducible refine (nmake_ok vs vr a m c2 kk hx hk j hj hyes hno v hv _ HEd.out HD.out.mm.sv.st.nd HSr.out).mono ?_); rintro e w2 ⟨rfl, hP2, hb2⟩; have HB2 := Lib.hid (HBD.out.trans hb2); have HW2 := Lib.hid (HD.out.node hP2 hb2); clear hP2 hb2))
  refine hK.out _ _ (HS7.out _ HW2.out (UpT.pb HB2.out (by have := HLT.out; omega) (by have := HLT.out; omega))) (fun hHeld => ?_)
  clear hK K
  (try simp only [Act.put, List.getElem_toArray, List.getElem_cons_succ, List.getElem_cons_zero, List.setIfInBounds_toArray, List.set_cons_zero, List.set_cons_succ])
  refine wpAnyH_take (i := 12) (v := ?_) (by rfl) (by kernel_rfl) (by kernel_rfl) (by kernel_rfl) (fun _ _ _ h => h) (Or.inl ⟨by kernel_rfl, ?_⟩) (by assumption) ?_; rotate_left 1; (focus (intro w hSw; (try dsimp only at hSw); simp only [List.getElem_toArray, List.getElem_cons_succ, List.getElem_cons_zero]; all_goals go_simp; all_goals (try with_reducible rfl))); (try simp only [Act.put, List.getElem_toArray, List.getElem_cons_succ, List.getElem_cons_zero, List.setIfInBounds_toArray, List.set_cons_zero, List.set_cons_succ])
  refine wpAnyH_take (i := 13) (v := ?_) (by rfl) (by kernel_rfl) (by kernel_rfl) (by kernel_rfl) (fun _ _ _ h => h) (Or.inl ⟨by kernel_rfl, ?_⟩) (by assumption) ?_; rotate_left 1; (focus (intro w hSw; (try dsimp only at hSw); simp only [List.getElem_toArray, List.getElem_cons_succ, List.getElem_cons_zero]; all_goals go_simp; all_goals (try with_reducible rfl))); (try simp only [Act.put, List.getElem_toArray, List.getElem_cons_succ, List.getElem_cons_zero, List.setIfInBounds_toArray, List.set_cons_zero, List.set_cons_succ])
  refine wpAnyH_take (i := 14) (v := ?_) (by rfl) (by kernel_rfl) (by kernel_rfl) (by kernel_rfl) (fun _ _ _ h => h) (Or.inl ⟨by kernel_rfl, ?_⟩) (by assumption) ?_; rotate_left 1; (focus (intro w hSw; (try dsimp only at hSw); simp only [List.getElem_toArray, List.getElem_cons_succ, List.getElem_cons_zero]; all_goals go_simp; all_goals (try with_reducible rfl))); (try simp only [Act.put, List.getElem_toArray, List.getElem_cons_succ, List.getElem_cons_zero, List.setIfInBounds_toArray, List.set_cons_zero, List.set_cons_succ])
  refine wpAnyH_take (i := 15) (v := ?_) (by rfl) (by kernel_rfl) (by kernel_rfl) (by kernel_rfl) (fun _ _ _ h => h) (Or.inl ⟨by kernel_rfl, ?_⟩) (by assumption) ?_; rotate_left 1; (focus (intro w hSw; (try dsimp only at hSw); simp only [List.getElem_toArray, List.getElem_cons_succ, List.getElem_cons_zero]; all_goals go_simp; all_goals (try with_reducible rfl))); (try simp only [Act.put, List.getElem_toArray, List.getElem_cons_succ, List.getElem_cons_zero, List.setIfInBounds_toArray, List.set_cons_zero, List.set_cons_succ])
  refine wpAnyH_take (i := 16) (v := ?_) (by rfl) (by kernel_rfl) (by kernel_rfl) (by kernel_rfl) (fun _ _ _ h => h) (Or.inl ⟨by kernel_rfl, ?_⟩) (by assumption) ?_; rotate_left 1; (focus (intro w hSw; (try dsimp only at hSw); simp only [List.getElem_toArray, List.getElem_cons_succ, List.getElem_cons_zero]; all_goals go_simp; all_goals (try with_reducible rfl))); (try simp only [Act.put, List.getElem_toArray, List.getElem_cons_succ, List.getElem_cons_zero, List.setIfInBounds_toArray, List.set_cons_zero, List.set_cons_succ])
  refine wpAnyH_take (i := 17) (v := ?_) (by rfl) (by kernel_rfl) (by kernel_rfl) (by kernel_rfl) (fun _ _ _ h => h) (Or.inl ⟨by kernel_rfl, ?_⟩) (by assumption) ?_; rotate_left 1; (focus (intro w hSw; (try dsimp only at hSw); simp only [List.getElem_toArray, List.getElem_cons_succ, List.getElem_cons_zero]; all_goals go_simp; all_goals (try with_reducible rfl))); (try simp only [Act.put, List.getElem_toArray, List.getElem_cons_succ, List.getElem_cons_zero, List.setIfInBounds_toArray, List.set_cons_zero, List.set_cons_succ])
  refine wpAnyH_done (by kernel_rfl) ?_ _
  refine NoPanic.normal ?_
  go_wp2_with fail
  go_ret3
  exact ⟨rfl, HW2.out, HB2.out⟩
end Go.Proofs.YtncopdhhchmpeaaGreatDoor
namespace Go.Proofs.YtncopdhhchmpeaaGreatDoor
open Go.ChangeShapes Go.WideShapes Go.ChangeAt Go.RowKit
set_option linter.unusedVariables false
set_option linter.unusedSimpArgs false
def boughtD (D : BSt) (q j : Nat) (v : Int) : BSt := { D with dt := upd D.dt j true, dW := updS D.dW j 0 zsD1, us := addL D.us (chL D.pr q) 1, o3 := upd D.o3 j q, v3 := upd D.v3 j v }
end Go.Proofs.YtncopdhhchmpeaaGreatDoor
namespace Go.Proofs.YtncopdhhchmpeaaGreatDoor
open Go.ChangeShapes Go.WideShapes Go.ChangeAt Go.RowKit
set_option linter.unusedVariables false
set_option linter.unusedSimpArgs false
/-- What lies behind all of it stays, and what lies between the domains and the banks. -/
structure UpM (L : BLoc) (w w' : World) : Prop where
  up : UpT L.T w w'
  win : ∀ k, L.dB ≤ k → k < L.bB → k ≠ L.dR → k ≠ L.dG → k < w.heap.size → w'.heap[k]? = w.heap[k]?
section
variable {w0 w w1 w2 : World} {L : BLoc} {D : BSt}
theorem UpM.trans (h : UpM L w w1) (h2 : UpM L w1 w2) : UpM L w w2 := ⟨h.up.trans h2.up, fun k a b c d e => (h2.win k a b c d (Nat.lt_of_lt_of_le e h.up.1)).trans (h.win k a b c d e)⟩
theorem UpM.below (h : Below w.heap.size w w1) : UpM L w w1 := ⟨UpT.below h, fun k _ _ _ _ e => h.block k e⟩
theorem UpM.pb {B G : Nat} (h : PBelow w w1 B G) (h1 : B < L.T) (h2 : G < L.T) (h3 : B < L.dB ∨ L.bB ≤ B ∨ B = L.dR ∨ B = L.dG) (h4 : G < L.dB ∨ L.bB ≤ G ∨ G = L.dR ∨ G = L.dG) : UpM L w w1 := ⟨UpT.pb h h1 h2, fun k a b c d e => h.2.2.2.2 k e (by omega) (by omega)⟩
theorem UpM.grown {g : Nat} (h : w.grownBy w1 (some g)) (h1 : g < L.T) (h3 : g < L.dB ∨ L.bB ≤ g ∨ g = L.dR ∨ g = L.dG) : UpM L w w1 := ⟨UpT.grown h h1, fun k a b c d e => h.block k e (fun x => by injection x with x; omega)⟩
theorem BW.lowD (h : BW w0 w L D) : L.a.B < L.dB ∧ L.a.G < L.dB ∧ L.b.B < L.dB ∧ L.b.G < L.dB ∧ L.bB ≤ L.A ∧ L.bB ≤ L.G1 ∧ L.bB ≤ L.G2 ∧ L.bB ≤ L.G3 ∧ L.bB ≤ L.B := by
  have h1 := h.mm.lo.n
  have h2 := h.mm.lo.p
  have h3 := h.md
  have h4 := h.kk.ac.lt.1
  have h5 := h.kk.t1.lt.1
  have h6 := h.kk.t2.lt.1
  have h7 := h.kk.t3.lt.1
  have h8 := h.kk.ar.lt.1
  omega
end
set_option maxRecDepth 100000 in
set_option maxHeartbeats 2000000 in
theorem bbuyp_w {w0 : World} {L : BLoc} {D : BSt} (q : Nat) (hq : q < D.nb) (x y j : Nat) (v : Int) (pW' : Nat → Nat → Int) (hj : j < L.b.n) (hfull : Hid ((chL D.pr q).any (fullB D.us D.lm) = false)) (hu : Hid (∀ i, i < L.n → -1000000 ≤ D.us i ∧ D.us i ≤ 1000000)) (w : World) (h : BW w0 w L D)
    (hcl : ∀ W, Below w.heap.size w W → Calls Tryz.prog 60 #[.pointer (some ⟨x, 0, none⟩), .pointer (some ⟨y, 0, none⟩)] W fun e w' => e = .returned (.tuple #[.int .i64 j, .int .i64 v, .nilIface]) ∧ BW w0 w' L { D with pt := upd D.pt j true, pW := pW' } ∧ PBelow W w' L.b.B L.b.G) :
    Calls Tryz.prog 49 #[.pointer (some ⟨L.P, 0, none⟩), .int .i64 (q : Int), .slice (some ⟨L.G2, 0, none⟩) 256 256, .nilIface, (Value.func (.func 60) #[] #[.pointer (some ⟨x, 0, none⟩), .pointer (some ⟨y, 0, none⟩)])] w fun e w' => e = .returned (.tuple #[.int .i64 j, .int .i64 v, .nilIface]) ∧ BW w0 w' L (boughtP D q j v pW') ∧ UpM L w w' := by
  have H := Lib.hid h
  have HCl := Lib.hid hcl
  have hn := h.n256
  have hpn := h.pn
  have hnn := h.nn
  have hin := chL_in h.pk h.nn (by omega) q hq
  obtain ⟨l, hl⟩ : ∃ l, Hid (chL D.pr q = l) := ⟨_, Lib.hid rfl⟩
  rw [hl.out] at hin hfull
  obtain ⟨m, hm⟩ : ∃ m, Hid (l.length = m) := ⟨_, Lib.hid rfl⟩
  have hm1 : m ≤ 1000 := by rw [← hm.out]; omega
  have HIn := Lib.hid hin.1
  have HNd := Lib.hid hin.2.2
  have HPk := Lib.hid h.pk
  have HLT := Lib.hid h.lowT
  have HLD := Lib.hid h.lowD
  have HTT := Lib.hid h.tt
  have HTw := Lib.hid h.tw
  have f0 := h.kk.f0
  have k0 : (0 : Int) ≤ j := by omega
  have k1 : (j : Int) < 256 := by omega
  clear h hcl hin
  go_enter Tryz.func49, Tryz.ntmps49
  go_wp2_with (first
    | (go_at_call 63; (with_reducible refine (athere_in q (by omega) true (Lib.hid (thN_at hq)) _ H.out.kk.ar).mono ?_); rintro e w1 ⟨rfl, rfl⟩)
    | (go_at_call 77; (with_reducible refine (bchain_is (q : Int) D.nb (by omega) (by omega) hnn (Lib.hid (fun i hi => thN_at hi)) HPk _ H.out.kk).mono ?_); rintro e w1 ⟨v9, rfl, hr, hb⟩; rw [hl.out] at hr; obtain ⟨a9, c9, hv9⟩ := own_slice hr m hm; have HRw := Lib.hid (rowT hr hv9 hm.out HTw.out); subst hv9; have H1 := Lib.hid (H.out.below hb); have HB1 := Lib.hid hb; clear hr hb f0)
    | (go_at_call 89; (with_reducible refine (bcf_is l m hm hm1 a9 c9 HIn false hfull _ H1.out.kk (fun i hi => by obtain ⟨g, h1, h2, h3, h4⟩ := HRw.out w1 (UpT.refl _ _) i hi; exact ⟨g, h1, h3, h4⟩)).mono ?_); rintro e w2 ⟨rfl, hb⟩; have HB2 := Lib.hid hb; clear hb)
    | (go_at_call 60; (with_reducible refine (HCl.out _ (HB1.out.trans (HB2.out.mono HB1.out.size))).mono ?_); rintro e w3 ⟨rfl, hW, hb⟩; have H3 := Lib.hid hW; have HU3 := Lib.hid ((UpM.below HB2.out).trans (UpM.pb (L := L) hb (by have := HLT.out; omega) (by have := HLT.out; omega) (by have := HLD.out; omega) (by have := HLD.out; omega))); have ht := hW.kk.t2.ti j (by omega); obtain ⟨c0, c1⟩ := ht; have z0 := hW.kk.t2.fr (j * 2); have z1 := hW.kk.t2.fr (j * 2 + 1); have HS := Lib.hid (hW.kk.t2.title j (by omega) q v); have H4 := Lib.hid (hW.kk.ti2 HS.out.1 HS.out.2); have HU4 := Lib.hid (HU3.out.trans (UpM.grown (L := L) HS.out.2 (by have := HTT.out; omega) (by have := HLD.out; omega))); clear hW hb)
    | (go_at_call 76; (with_reducible refine (bcount_is l m hm hm1 a9 c9 HIn HNd 1 (by decide) hu _ H4.out (fun i hi => by obtain ⟨g, h1, h2, h3, h4⟩ := HRw.out _ HU4.out.up i hi; exact ⟨g, h1, h3, by have := HTT.out; omega, h4⟩)).mono ?_); rintro e w5 ⟨rfl, hB, hg⟩; have H5 := Lib.hid hB; have HG5 := Lib.hid hg; clear hB hg c0 c1 z0 z1))
  go_ret3
  refine ⟨rfl, ?_, ((UpM.below HB1.out).trans HU4.out).trans (UpM.grown (L := L) HG5.out (by have := HTT.out; omega) (by have := HLD.out; omega))⟩
  have hlo : Below L.bB w3 w5 := by
    refine (low_of HS.out.2 H3.out.kk.t2.lt.1 H3.out.bl).trans (low_of HG5.out H3.out.kk.ac.lt.1 ?_)
    exact Nat.le_trans H3.out.bl HS.out.2.size
  refine BW.bank H3.out (D' := boughtP D q j v pW') ?_ hlo rfl HPk.out hnn
  have := H5.out
  rw [← hl.out] at this
  exact this
set_option maxRecDepth 100000 in
set_option maxHeartbeats 2000000 in
theorem bpage_w {w0 : World} {L : BLoc} {D : BSt} (q : Nat) (hq : q < D.nb) (a : Option Addr) (m c2 : Nat) (xs : List Int) (hm : Hid (xs.length = m)) (hx0 : m ≤ 32) (j : Nat) (hj : j < L.b.n) (hyes : Hid (freeB D.pt D.pv j = true)) (hno : Hid (∀ i, i < j → freeB D.pt D.pv i = false)) (v : Int) (hv : Hid (D.pv j = v)) (hfull : Hid ((chL D.pr q).any (fullB D.us D.lm) = false)) (hu : Hid (∀ i, i < L.n → -1000000 ≤ D.us i ∧ D.us i ≤ 1000000)) (w : World) (h : BW w0 w L D) (hs : SrcW L w a xs) :
    Calls Tryz.prog 17 #[.pointer (some ⟨L.P, 0, none⟩), .int .i64 (q : Int), .slice a m c2] w fun e w' => e = .returned (.tuple #[.int .i64 j, .int .i64 v, .nilIface]) ∧ BW w0 w' L (boughtP D q j v (fresh D.pW j xs)) ∧ UpM L w w' := by
  have H := Lib.hid h
  have HS := Lib.hid hs
  have HLT := Lib.hid h.lowT
  have HLD := Lib.hid h.lowD
  have HTw := Lib.hid h.tw
  clear h hs
  go_enter Tryz.func17, Tryz.ntmps17
  go_upto_region 1 with fail
  generalize hw2 : World.alloc (World.alloc w _) _ = w2
  have HB2 : Hid (Below w.heap.size w w2) := Lib.hid (by rw [← hw2]; exact ((Below.refl _ _).alloc (Nat.le_refl _) _).alloc (by simp) _)
  have HX : Hid (∀ W, UpT w.heap.size w2 W → World.cell? W ⟨w.heap.size, 0, none⟩ = some (.pointer (some ⟨L.P, 0, none⟩)) ∧ World.cell? W ⟨w.heap.size + 1, 0, none⟩ = some (.slice a m c2)) := Lib.hid (fun W hu => by
    have e1 : w2.cell? ⟨w.heap.size, 0, none⟩ = some (.pointer (some ⟨L.P, 0, none⟩)) := by rw [← hw2]; simp
    have e2 : w2.cell? ⟨w.heap.size + 1, 0, none⟩ = some (.slice a m c2) := by rw [← hw2]; simp
    have sz : w2.heap.size = w.heap.size + 1 + 1 := by rw [← hw2]; simp
    exact ⟨(World.cell?_of_block (a := ⟨w.heap.size, 0, none⟩) (hu.2 w.heap.size (by omega) (by omega))).trans e1, (World.cell?_of_block (a := ⟨w.heap.size + 1, 0, none⟩) (hu.2 (w.heap.size + 1) (by omega) (by omega))).trans e2⟩)
  have HSz : Hid (w2.heap.size = w.heap.size + 1 + 1) := Lib.hid (by rw [← hw2]; simp)
  clear hw2
  obtain ⟨wD, hwD⟩ : ∃ wD, wD = w2.drew := ⟨_, rfl⟩
  have HBD : Hid (Below w2.heap.size w2 wD) := Lib.hid (by rw [hwD]; exact (Below.refl _ _).drew)
  have HS7 : Hid (∀ W D', BW w0 W L D' → UpT w.heap.size w2 W → (World.cell? W ⟨w.heap.size, 0, none⟩ = some (.pointer (some ⟨L.P, 0, none⟩)) ∧ World.cell? W ⟨L.P, 5, none⟩ = some (.slice (some ⟨L.G2, 0, none⟩) 256 256) ∧ World.cell? W ⟨w.heap.size + 1, 0, none⟩ = some (.slice a m c2))) := Lib.hid (fun W D' hW hu => ⟨(HX.out W hu).1, hW.kk.f5, (HX.out W hu).2⟩)
  have HWD := Lib.hid ((H.out.below HB2.out).below HBD.out)
  have hS0 := HS7.out _ _ HWD.out (UpT.below HBD.out)
  refine wp_region_noPanic ?_
  refine wp_region_held_drew (S := fun w' => (World.cell? w' ⟨w.heap.size, 0, none⟩ = some (.pointer (some ⟨L.P, 0, none⟩)) ∧ World.cell? w' ⟨L.P, 5, none⟩ = some (.slice (some ⟨L.G2, 0, none⟩) 256 256) ∧ World.cell? w' ⟨w.heap.size + 1, 0, none⟩ = some (.slice a m c2))) (by kernel_rfl) (by rw [← hwD]; exact hS0) (fun hHeld => ?_)
  rw [← hwD] at hHeld ⊢
  clear hwD hS0
  refine wpAnyH_take (i := 0) (v := ?_) (by rfl) (by kernel_rfl) (by kernel_rfl) (by kernel_rfl) (fun _ _ _ h => h) (Or.inl ⟨by kernel_rfl, ?_⟩) (by assumption) ?_; rotate_left 1; (focus (intro w hSw; (try dsimp only at hSw); simp only [List.getElem_toArray, List.getElem_cons_succ, List.getElem_cons_zero]; all_goals go_simp; all_goals (try with_reducible rfl))); (try simp only [Act.put, List.getElem_toArray, List.getElem_cons_succ, List.getElem_cons_zero, List.setIfInBounds_toArray, List.set_cons_zero, List.set_cons_succ])
  refine wpAnyH_take (i := 1) (v := ?_) (by rfl) (by kernel_rfl) (by kernel_rfl) (by kernel_rfl) (fun _ _ _ h => h) (Or.inl ⟨by kernel_rfl, ?_⟩) (by assumption) ?_; rotate_left 1; (focus (intro w hSw; (try dsimp only at hSw); simp only [List.getElem_toArray, List.getElem_cons_succ, List.getElem_cons_zero]; all_goals go_simp; all_goals (try with_reducible rfl))); (try simp only [Act.put, List.getElem_toArray, List.getElem_cons_succ, List.getElem_cons_zero, List.setIfInBounds_toArray, List.set_cons_zero, List.set_cons_succ])
  refine wpAnyH_take (i := 2) (v := ?_) (by rfl) (by kernel_rfl) (by kernel_rfl) (by kernel_rfl) (fun _ _ _ h => h) (Or.inl ⟨by kernel_rfl, ?_⟩) (by assumption) ?_; rotate_left 1; (focus (intro w hSw; (try dsimp only at hSw); simp only [List.getElem_toArray, List.getElem_cons_succ, List.getElem_cons_zero]; all_goals go_simp; all_goals (try with_reducible rfl))); (try simp only [Act.put, List.getElem_toArray, List.getElem_cons_succ, List.getElem_cons_zero, List.setIfInBounds_toArray, List.set_cons_zero, List.set_cons_succ])
  refine wpAnyH_take (i := 3) (v := ?_) (by rfl) (by kernel_rfl) (by kernel_rfl) (by kernel_rfl) (fun _ _ _ h => h) (Or.inl ⟨by kernel_rfl, ?_⟩) (by assumption) ?_; rotate_left 1; (focus (intro w hSw; (try dsimp only at hSw); simp only [List.getElem_toArray, List.getElem_cons_succ, List.getElem_cons_zero]; all_goals go_simp; all_goals (try with_reducible rfl))); (try simp only [Act.put, List.getElem_toArray, List.getElem_cons_succ, List.getElem_cons_zero, List.setIfInBounds_toArray, List.set_cons_zero, List.set_cons_succ])
  refine wpAnyH_take (i := 4) (v := ?_) (by rfl) (by kernel_rfl) (by kernel_rfl) (by kernel_rfl) (fun _ _ _ h => h) (Or.inl ⟨by kernel_rfl, ?_⟩) (by assumption) ?_; rotate_left 1; (focus (intro w hSw; (try dsimp only at hSw); simp only [List.getElem_toArray, List.getElem_cons_succ, List.getElem_cons_zero]; all_goals go_simp; all_goals (try with_reducible rfl))); (try simp only [Act.put, List.getElem_toArray, List.getElem_cons_succ, List.getElem_cons_zero, List.setIfInBounds_toArray, List.set_cons_zero, List.set_cons_succ])
  refine wpAnyH_take (i := 5) (v := ?_) (by rfl) (by kernel_rfl) (by kernel_rfl) (by kernel_rfl) (fun _ _ _ h => h) (Or.inl ⟨by kernel_rfl, ?_⟩) (by assumption) ?_; rotate_left 1; (focus (intro w hSw; (try dsimp only at hSw); simp only [List.getElem_toArray, List.getElem_cons_succ, List.getElem_cons_zero]; all_goals go_simp; all_goals (try with_reducible rfl))); (try simp only [Act.put, List.getElem_toArray, List.getElem_cons_succ, List.getElem_cons_zero, List.setIfInBounds_toArray, List.set_cons_zero, List.set_cons_succ])
  refine wpAnyH_take (i := 6) (v := ?_) (by rfl) (by kernel_rfl) (by kernel_rfl) (by kernel_rfl) (fun _ _ _ h => h) (Or.inl ⟨by kernel_rfl, ?_⟩) (by assumption) ?_; rotate_left 1; (focus (intro w hSw; (try dsimp only at hSw); simp only [List.getElem_toArray, List.getElem_cons_succ, List.getElem_cons_zero]; all_goals go_simp; all_goals (try with_reducible rfl))); (try simp only [Act.put, List.getElem_toArray, List.getElem_cons_succ, List.getElem_cons_zero, List.setIfInBounds_toArray, List.set_cons_zero, List.set_cons_succ])
  refine wpAnyH_take (i := 8) (v := ?_) (by rfl) (by kernel_rfl) (by kernel_rfl) (by kernel_rfl) (fun _ _ _ h => h) (Or.inl ⟨by kernel_rfl, ?_⟩) (by assumption) ?_; rotate_left 1; (focus (intro w hSw; (try dsimp only at hSw); simp only [List.getElem_toArray, List.getElem_cons_succ, List.getElem_cons_zero]; all_goals go_simp; all_goals (try with_reducible rfl))); (try simp only [Act.put, List.getElem_toArray, List.getElem_cons_succ, List.getElem_cons_zero, List.setIfInBounds_toArray, List.set_cons_zero, List.set_cons_succ])
  refine wpAnyH_ready (rs := [7]) (by kernel_rfl) (by simp) ?_; refine AllReadyH.cons (by rfl) (fun K hK => ?_) AllReadyH.nil; rw [if_pos (by kernel_rfl)]; simp only [List.getElem_toArray, List.getElem_cons_succ, List.getElem_cons_zero]
  go_wp2_with (first
    | (go_at_call 59; (with_reducible refine (bpageof_ok a m c2 xs hm hx0 _ (fun B G hB hG => HS.out.run _ (HB2.out.trans (HBD.out.mono HB2.out.size)) B G (.inr (Nat.le_trans (Nat.le_trans HB2.out.size HBD.out.size) hB)) (.inr (Nat.le_trans (Nat.le_trans HB2.out.size HBD.out.size) hG)))).mono ?_); rintro e w3 ⟨rfl, hb⟩; have HB3 := Lib.hid (HBD.out.trans (hb.mono HBD.out.size)); have HW3 := Lib.hid (HWD.out.below hb); clear hb))
  refine hK.out _ _ (HS7.out _ _ HW3.out (UpT.below HB3.out)) (fun hHeld => ?_)
  clear hK K
  (try simp only [Act.put, List.getElem_toArray, List.getElem_cons_succ, List.getElem_cons_zero, List.setIfInBounds_toArray, List.set_cons_zero, List.set_cons_succ])
  refine wpAnyH_ready (rs := [9]) (by kernel_rfl) (by simp) ?_; refine AllReadyH.cons (by rfl) (fun K hK => ?_) AllReadyH.nil; rw [if_pos (by kernel_rfl)]; simp only [List.getElem_toArray, List.getElem_cons_succ, List.getElem_cons_zero]
  have HCl : Hid (∀ W, Below w3.heap.size w3 W → Calls Tryz.prog 60 #[.pointer (some ⟨w.heap.size, 0, none⟩), .pointer (some ⟨w.heap.size + 1, 0, none⟩)] W fun e w' => e = .returned (.tuple #[.int .i64 j, .int .i64 v, .nilIface]) ∧ BW w0 w' L { D with pt := upd D.pt j true, pW := fresh D.pW j xs } ∧ PBelow W w' L.b.B L.b.G) := Lib.hid (fun W hb => by
    have hbw : Below w2.heap.size w2 W := HB3.out.trans (hb.mono HB3.out.size)
    have hx := HX.out W (UpT.below hbw)
    have h1 := hbw.size
    have h2 := HSz.out
    have h3 := HTw.out
    have h4 := HLT.out
    exact bpgcl_ok w.heap.size (w.heap.size + 1) a m c2 xs hm hx0 j hj hyes hno v hv W (HW3.out.below hb) (by omega) hx.1 hx.2 (HS.out.run W (HB2.out.trans (hbw.mono HB2.out.size)) _ _ (.inl (by omega)) (.inl (by omega))))
  go_wp2_with (first
    | (go_at_call 49; (with_reducible refine (bbuyp_w q hq w.heap.size (w.heap.size + 1) j v _ hj hfull hu _ HW3.out HCl.out).mono ?_); rintro e w4 ⟨rfl, hW, hu4⟩; have HW4 := Lib.hid hW; have HU4 := Lib.hid hu4; clear hW hu4))
  refine hK.out _ _ (HS7.out _ _ HW4.out ((UpT.below HB3.out).trans ⟨HU4.out.up.1, fun k h1 h2 => HU4.out.up.2 k (Nat.le_trans HTw.out h1) h2⟩)) (fun hHeld => ?_)
  clear hK K
  (try simp only [Act.put, List.getElem_toArray, List.getElem_cons_succ, List.getElem_cons_zero, List.setIfInBounds_toArray, List.set_cons_zero, List.set_cons_succ])
  refine wpAnyH_take (i := 10) (v := ?_) (by rfl) (by kernel_rfl) (by kernel_rfl) (by kernel_rfl) (fun _ _ _ h => h) (Or.inl ⟨by kernel_rfl, ?_⟩) (by assumption) ?_; rotate_left 1; (focus (intro w hSw; (try dsimp only at hSw); simp only [List.getElem_toArray, List.getElem_cons_succ, List.getElem_cons_zero]; all_goals go_simp; all_goals (try with_reducible rfl))); (try simp only [Act.put, List.getElem_toArray, List.getElem_cons_succ, List.getElem_cons_zero, List.setIfInBounds_toArray, List.set_cons_zero, List.set_cons_succ])
  refine wpAnyH_take (i := 11) (v := ?_) (by rfl) (by kernel_rfl) (by kernel_rfl) (by kernel_rfl) (fun _ _ _ h => h) (Or.inl ⟨by kernel_rfl, ?_⟩) (by assumption) ?_; rotate_left 1; (focus (intro w hSw; (try dsimp only at hSw); simp only [List.getElem_toArray, List.getElem_cons_succ, List.getElem_cons_zero]; all_goals go_simp; all_goals (try with_reducible rfl))); (try simp only [Act.put, List.getElem_toArray, List.getElem_cons_succ, List.getElem_cons_zero, List.setIfInBounds_toArray, List.set_cons_zero, List.set_cons_succ])
  refine wpAnyH_take (i := 12) (v := ?_) (by rfl) (by kernel_rfl) (by kernel_rfl) (by kernel_rfl) (fun _ _ _ h => h) (Or.inl ⟨by kernel_rfl, ?_⟩) (by assumption) ?_; rotate_left 1; (focus (intro w hSw; (try dsimp only at hSw); simp only [List.getElem_toArray, List.getElem_cons_succ, List.getElem_cons_zero]; all_goals go_simp; all_goals (try with_reducible rfl))); (try simp only [Act.put, List.getElem_toArray, List.getElem_cons_succ, List.getElem_cons_zero, List.setIfInBounds_toArray, List.set_cons_zero, List.set_cons_succ])
  refine wpAnyH_take (i := 13) (v := ?_) (by rfl) (by kernel_rfl) (by kernel_rfl) (by kernel_rfl) (fun _ _ _ h => h) (Or.inl ⟨by kernel_rfl, ?_⟩) (by assumption) ?_; rotate_left 1; (focus (intro w hSw; (try dsimp only at hSw); simp only [List.getElem_toArray, List.getElem_cons_succ, List.getElem_cons_zero]; all_goals go_simp; all_goals (try with_reducible rfl))); (try simp only [Act.put, List.getElem_toArray, List.getElem_cons_succ, List.getElem_cons_zero, List.setIfInBounds_toArray, List.set_cons_zero, List.set_cons_succ])
  refine wpAnyH_take (i := 14) (v := ?_) (by rfl) (by kernel_rfl) (by kernel_rfl) (by kernel_rfl) (fun _ _ _ h => h) (Or.inl ⟨by kernel_rfl, ?_⟩) (by assumption) ?_; rotate_left 1; (focus (intro w hSw; (try dsimp only at hSw); simp only [List.getElem_toArray, List.getElem_cons_succ, List.getElem_cons_zero]; all_goals go_simp; all_goals (try with_reducible rfl))); (try simp only [Act.put, List.getElem_toArray, List.getElem_cons_succ, List.getElem_cons_zero, List.setIfInBounds_toArray, List.set_cons_zero, List.set_cons_succ])
  refine wpAnyH_take (i := 15) (v := ?_) (by rfl) (by kernel_rfl) (by kernel_rfl) (by kernel_rfl) (fun _ _ _ h => h) (Or.inl ⟨by kernel_rfl, ?_⟩) (by assumption) ?_; rotate_left 1; (focus (intro w hSw; (try dsimp only at hSw); simp only [List.getElem_toArray, List.getElem_cons_succ, List.getElem_cons_zero]; all_goals go_simp; all_goals (try with_reducible rfl))); (try simp only [Act.put, List.getElem_toArray, List.getElem_cons_succ, List.getElem_cons_zero, List.setIfInBounds_toArray, List.set_cons_zero, List.set_cons_succ])
  refine wpAnyH_done (by kernel_rfl) ?_ _
  refine NoPanic.normal ?_
  go_wp2_with fail
  go_ret3
  exact ⟨rfl, HW4.out, ((UpM.below HB2.out).trans (UpM.below HB3.out)).trans HU4.out⟩
set_option maxRecDepth 100000 in
set_option maxHeartbeats 2000000 in
theorem bbuyn_w {w0 : World} {L : BLoc} {D : BSt} (q : Nat) (hq : q < D.nb) (x y j : Nat) (v : Int) (nW' : Nat → Nat → Value) (hj : j < L.a.n) (hfull : Hid ((chL D.pr q).any (fullB D.us D.lm) = false)) (hu : Hid (∀ i, i < L.n → -1000000 ≤ D.us i ∧ D.us i ≤ 1000000)) (w : World) (h : BW w0 w L D)
    (hcl : ∀ W, Below w.heap.size w W → Calls Tryz.prog 51 #[.pointer (some ⟨x, 0, none⟩), .pointer (some ⟨y, 0, none⟩)] W fun e w' => e = .returned (.tuple #[.int .i64 j, .int .i64 v, .nilIface]) ∧ BW w0 w' L { D with nt := upd D.nt j true, nW := nW' } ∧ PBelow W w' L.a.B L.a.G) :
    Calls Tryz.prog 49 #[.pointer (some ⟨L.P, 0, none⟩), .int .i64 (q : Int), .slice (some ⟨L.G1, 0, none⟩) 256 256, .nilIface, (Value.func (.func 51) #[] #[.pointer (some ⟨x, 0, none⟩), .pointer (some ⟨y, 0, none⟩)])] w fun e w' => e = .returned (.tuple #[.int .i64 j, .int .i64 v, .nilIface]) ∧ BW w0 w' L (boughtN D q j v nW') ∧ UpM L w w' := by
  have H := Lib.hid h
  have HCl := Lib.hid hcl
  have hn := h.n256
  have hpn := h.an
  have hnn := h.nn
  have hin := chL_in h.pk h.nn (by omega) q hq
  obtain ⟨l, hl⟩ : ∃ l, Hid (chL D.pr q = l) := ⟨_, Lib.hid rfl⟩
  rw [hl.out] at hin hfull
  obtain ⟨m, hm⟩ : ∃ m, Hid (l.length = m) := ⟨_, Lib.hid rfl⟩
  have hm1 : m ≤ 1000 := by rw [← hm.out]; omega
  have HIn := Lib.hid hin.1
  have HNd := Lib.hid hin.2.2
  have HPk := Lib.hid h.pk
  have HLT := Lib.hid h.lowT
  have HLD := Lib.hid h.lowD
  have HTT := Lib.hid h.tt
  have HTw := Lib.hid h.tw
  have f0 := h.kk.f0
  have k0 : (0 : Int) ≤ j := by omega
  have k1 : (j : Int) < 256 := by omega
  clear h hcl hin
  go_enter Tryz.func49, Tryz.ntmps49
  go_wp2_with (first
    | (go_at_call 63; (with_reducible refine (athere_in q (by omega) true (Lib.hid (thN_at hq)) _ H.out.kk.ar).mono ?_); rintro e w1 ⟨rfl, rfl⟩)
    | (go_at_call 77; (with_reducible refine (bchain_is (q : Int) D.nb (by omega) (by omega) hnn (Lib.hid (fun i hi => thN_at hi)) HPk _ H.out.kk).mono ?_); rintro e w1 ⟨v9, rfl, hr, hb⟩; rw [hl.out] at hr; obtain ⟨a9, c9, hv9⟩ := own_slice hr m hm; have HRw := Lib.hid (rowT hr hv9 hm.out HTw.out); subst hv9; have H1 := Lib.hid (H.out.below hb); have HB1 := Lib.hid hb; clear hr hb f0)
    | (go_at_call 89; (with_reducible refine (bcf_is l m hm hm1 a9 c9 HIn false hfull _ H1.out.kk (fun i hi => by obtain ⟨g, h1, h2, h3, h4⟩ := HRw.out w1 (UpT.refl _ _) i hi; exact ⟨g, h1, h3, h4⟩)).mono ?_); rintro e w2 ⟨rfl, hb⟩; have HB2 := Lib.hid hb; clear hb)
    | (go_at_call 51; (with_reducible refine (HCl.out _ (HB1.out.trans (HB2.out.mono HB1.out.size))).mono ?_); rintro e w3 ⟨rfl, hW, hb⟩; have H3 := Lib.hid hW; have HU3 := Lib.hid ((UpM.below HB2.out).trans (UpM.pb (L := L) hb (by have := HLT.out; omega) (by have := HLT.out; omega) (by have := HLD.out; omega) (by have := HLD.out; omega))); have ht := hW.kk.t1.ti j (by omega); obtain ⟨c0, c1⟩ := ht; have z0 := hW.kk.t1.fr (j * 2); have z1 := hW.kk.t1.fr (j * 2 + 1); have HS := Lib.hid (hW.kk.t1.title j (by omega) q v); have H4 := Lib.hid (hW.kk.ti1 HS.out.1 HS.out.2); have HU4 := Lib.hid (HU3.out.trans (UpM.grown (L := L) HS.out.2 (by have := HTT.out; omega) (by have := HLD.out; omega))); clear hW hb)
    | (go_at_call 76; (with_reducible refine (bcount_is l m hm hm1 a9 c9 HIn HNd 1 (by decide) hu _ H4.out (fun i hi => by obtain ⟨g, h1, h2, h3, h4⟩ := HRw.out _ HU4.out.up i hi; exact ⟨g, h1, h3, by have := HTT.out; omega, h4⟩)).mono ?_); rintro e w5 ⟨rfl, hB, hg⟩; have H5 := Lib.hid hB; have HG5 := Lib.hid hg; clear hB hg c0 c1 z0 z1))
  go_ret3
  refine ⟨rfl, ?_, ((UpM.below HB1.out).trans HU4.out).trans (UpM.grown (L := L) HG5.out (by have := HTT.out; omega) (by have := HLD.out; omega))⟩
  have hlo : Below L.bB w3 w5 := by
    refine (low_of HS.out.2 H3.out.kk.t1.lt.1 H3.out.bl).trans (low_of HG5.out H3.out.kk.ac.lt.1 ?_)
    exact Nat.le_trans H3.out.bl HS.out.2.size
  refine BW.bank H3.out (D' := boughtN D q j v nW') ?_ hlo rfl HPk.out hnn
  have := H5.out
  rw [← hl.out] at this
  exact this
set_option maxRecDepth 100000 in
set_option maxHeartbeats 2000000 in
theorem bnode_w {w0 : World} {L : BLoc} {D : BSt} (q : Nat) (hq : q < D.nb) (vs vr : Value) (a : Option Addr) (m c2 : Nat) (kk : Nat → Nat → Int) (hk : Hid (∀ i, i < m → KRight kk i)) (hx0 : m ≤ 16) (j : Nat) (hj : j < L.a.n) (hyes : Hid (freeB D.nt D.nv j = true)) (hno : Hid (∀ i, i < j → freeB D.nt D.nv i = false)) (v : Int) (hv : Hid (D.nv j = v)) (hfull : Hid ((chL D.pr q).any (fullB D.us D.lm) = false)) (hu : Hid (∀ i, i < L.n → -1000000 ≤ D.us i ∧ D.us i ≤ 1000000)) (w : World) (h : BW w0 w L D) (hE : ErrsAt vs vr w) (hs : SrcV L w a m kk) :
    Calls Tryz.prog 15 #[.pointer (some ⟨L.P, 0, none⟩), .int .i64 (q : Int), .slice a m c2] w fun e w' => e = .returned (.tuple #[.int .i64 j, .int .i64 v, .nilIface]) ∧ BW w0 w' L (boughtN D q j v (freshV D.nW j (kcs kk m))) ∧ UpM L w w' := by
  have H := Lib.hid h
  have HS := Lib.hid hs
  have HLT := Lib.hid h.lowT
  have HLD := Lib.hid h.lowD
  have HTw := Lib.hid h.tw
  have HE := Lib.hid hE
  clear h hs hE
  go_enter Tryz.func15, Tryz.ntmps15
  go_upto_region 1 with fail
  generalize hw2 : World.alloc (World.alloc w _) _ = w2
  have HB2 : Hid (Below w.heap.size w w2) := Lib.hid (by rw [← hw2]; exact ((Below.refl _ _).alloc (Nat.le_refl _) _).alloc (by simp) _)
  have HX : Hid (∀ W, UpT w.heap.size w2 W → World.cell? W ⟨w.heap.size, 0, none⟩ = some (.pointer (some ⟨L.P, 0, none⟩)) ∧ World.cell? W ⟨w.heap.size + 1, 0, none⟩ = some (.slice a m c2)) := Lib.hid (fun W hu => by
    have e1 : w2.cell? ⟨w.heap.size, 0, none⟩ = some (.pointer (some ⟨L.P, 0, none⟩)) := by rw [← hw2]; simp
    have e2 : w2.cell? ⟨w.heap.size + 1, 0, none⟩ = some (.slice a m c2) := by rw [← hw2]; simp
    have sz : w2.heap.size = w.heap.size + 1 + 1 := by rw [← hw2]; simp
    exact ⟨(World.cell?_of_block (a := ⟨w.heap.size, 0, none⟩) (hu.2 w.heap.size (by omega) (by omega))).trans e1, (World.cell?_of_block (a := ⟨w.heap.size + 1, 0, none⟩) (hu.2 (w.heap.size + 1) (by omega) (by omega))).trans e2⟩)
  have HSz : Hid (w2.heap.size = w.heap.size + 1 + 1) := Lib.hid (by rw [← hw2]; simp)
  clear hw2
  obtain ⟨wD, hwD⟩ : ∃ wD, wD = w2.drew := ⟨_, rfl⟩
  have HBD : Hid (Below w2.heap.size w2 wD) := Lib.hid (by rw [hwD]; exact (Below.refl _ _).drew)
  have HS7 : Hid (∀ W D', BW w0 W L D' → UpT w.heap.size w2 W → (World.cell? W ⟨w.heap.size, 0, none⟩ = some (.pointer (some ⟨L.P, 0, none⟩)) ∧ World.cell? W ⟨L.P, 4, none⟩ = some (.slice (some ⟨L.G1, 0, none⟩) 256 256) ∧ World.cell? W ⟨w.heap.size + 1, 0, none⟩ = some (.slice a m c2))) := Lib.hid (fun W D' hW hu => ⟨(HX.out W hu).1, hW.kk.f4, (HX.out W hu).2⟩)
  have HWD := Lib.hid ((H.out.below HB2.out).below HBD.out)
  have HEd := Lib.hid ((HE.out.up HB2.out).up HBD.out)
  have hS0 := HS7.out _ _ HWD.out (UpT.below HBD.out)
  refine wp_region_noPanic ?_
  refine wp_region_held_drew (S := fun w' => (World.cell? w' ⟨w.heap.size, 0, none⟩ = some (.pointer (some ⟨L.P, 0, none⟩)) ∧ World.cell? w' ⟨L.P, 4, none⟩ = some (.slice (some ⟨L.G1, 0, none⟩) 256 256) ∧ World.cell? w' ⟨w.heap.size + 1, 0, none⟩ = some (.slice a m c2))) (by kernel_rfl) (by rw [← hwD]; exact hS0) (fun hHeld => ?_)
  rw [← hwD] at hHeld ⊢
  clear hwD hS0
  refine wpAnyH_take (i := 0) (v := ?_) (by rfl) (by kernel_rfl) (by kernel_rfl) (by kernel_rfl) (fun _ _ _ h => h) (Or.inl ⟨by kernel_rfl, ?_⟩) (by assumption) ?_; rotate_left 1; (focus (intro w hSw; (try dsimp only at hSw); simp only [List.getElem_toArray, List.getElem_cons_succ, List.getElem_cons_zero]; all_goals go_simp; all_goals (try with_reducible rfl))); (try simp only [Act.put, List.getElem_toArray, List.getElem_cons_succ, List.getElem_cons_zero, List.setIfInBounds_toArray, List.set_cons_zero, List.set_cons_succ])
  refine wpAnyH_take (i := 1) (v := ?_) (by rfl) (by kernel_rfl) (by kernel_rfl) (by kernel_rfl) (fun _ _ _ h => h) (Or.inl ⟨by kernel_rfl, ?_⟩) (by assumption) ?_; rotate_left 1; (focus (intro w hSw; (try dsimp only at hSw); simp only [List.getElem_toArray, List.getElem_cons_succ, List.getElem_cons_zero]; all_goals go_simp; all_goals (try with_reducible rfl))); (try simp only [Act.put, List.getElem_toArray, List.getElem_cons_succ, List.getElem_cons_zero, List.setIfInBounds_toArray, List.set_cons_zero, List.set_cons_succ])
  refine wpAnyH_take (i := 2) (v := ?_) (by rfl) (by kernel_rfl) (by kernel_rfl) (by kernel_rfl) (fun _ _ _ h => h) (Or.inl ⟨by kernel_rfl, ?_⟩) (by assumption) ?_; rotate_left 1; (focus (intro w hSw; (try dsimp only at hSw); simp only [List.getElem_toArray, List.getElem_cons_succ, List.getElem_cons_zero]; all_goals go_simp; all_goals (try with_reducible rfl))); (try simp only [Act.put, List.getElem_toArray, List.getElem_cons_succ, List.getElem_cons_zero, List.setIfInBounds_toArray, List.set_cons_zero, List.set_cons_succ])
  refine wpAnyH_take (i := 3) (v := ?_) (by rfl) (by kernel_rfl) (by kernel_rfl) (by kernel_rfl) (fun _ _ _ h => h) (Or.inl ⟨by kernel_rfl, ?_⟩) (by assumption) ?_; rotate_left 1; (focus (intro w hSw; (try dsimp only at hSw); simp only [List.getElem_toArray, List.getElem_cons_succ, List.getElem_cons_zero]; all_goals go_simp; all_goals (try with_reducible rfl))); (try simp only [Act.put, List.getElem_toArray, List.getElem_cons_succ, List.getElem_cons_zero, List.setIfInBounds_toArray, List.set_cons_zero, List.set_cons_succ])
  refine wpAnyH_take (i := 4) (v := ?_) (by rfl) (by kernel_rfl) (by kernel_rfl) (by kernel_rfl) (fun _ _ _ h => h) (Or.inl ⟨by kernel_rfl, ?_⟩) (by assumption) ?_; rotate_left 1; (focus (intro w hSw; (try dsimp only at hSw); simp only [List.getElem_toArray, List.getElem_cons_succ, List.getElem_cons_zero]; all_goals go_simp; all_goals (try with_reducible rfl))); (try simp only [Act.put, List.getElem_toArray, List.getElem_cons_succ, List.getElem_cons_zero, List.setIfInBounds_toArray, List.set_cons_zero, List.set_cons_succ])
  refine wpAnyH_take (i := 5) (v := ?_) (by rfl) (by kernel_rfl) (by kernel_rfl) (by kernel_rfl) (fun _ _ _ h => h) (Or.inl ⟨by kernel_rfl, ?_⟩) (by assumption) ?_; rotate_left 1; (focus (intro w hSw; (try dsimp only at hSw); simp only [List.getElem_toArray, List.getElem_cons_succ, List.getElem_cons_zero]; all_goals go_simp; all_goals (try with_reducible rfl))); (try simp only [Act.put, List.getElem_toArray, List.getElem_cons_succ, List.getElem_cons_zero, List.setIfInBounds_toArray, List.set_cons_zero, List.set_cons_succ])
  refine wpAnyH_take (i := 6) (v := ?_) (by rfl) (by kernel_rfl) (by kernel_rfl) (by kernel_rfl) (fun _ _ _ h => h) (Or.inl ⟨by kernel_rfl, ?_⟩) (by assumption) ?_; rotate_left 1; (focus (intro w hSw; (try dsimp only at hSw); simp only [List.getElem_toArray, List.getElem_cons_succ, List.getElem_cons_zero]; all_goals go_simp; all_goals (try with_reducible rfl))); (try simp only [Act.put, List.getElem_toArray, List.getElem_cons_succ, List.getElem_cons_zero, List.setIfInBounds_toArray, List.set_cons_zero, List.set_cons_succ])
  refine wpAnyH_take (i := 8) (v := ?_) (by rfl) (by kernel_rfl) (by kernel_rfl) (by kernel_rfl) (fun _ _ _ h => h) (Or.inl ⟨by kernel_rfl, ?_⟩) (by assumption) ?_; rotate_left 1; (focus (intro w hSw; (try dsimp only at hSw); simp only [List.getElem_toArray, List.getElem_cons_succ, List.getElem_cons_zero]; all_goals go_simp; all_goals (try with_reducible rfl))); (try simp only [Act.put, List.getElem_toArray, List.getElem_cons_succ, List.getElem_cons_zero, List.setIfInBounds_toArray, List.set_cons_zero, List.set_cons_succ])
  refine wpAnyH_ready (rs := [7]) (by kernel_rfl) (by simp) ?_; refine AllReadyH.cons (by rfl) (fun K hK => ?_) AllReadyH.nil; rw [if_pos (by kernel_rfl)]; simp only [List.getElem_toArray, List.getElem_cons_succ, List.getElem_cons_zero]
  go_wp2_with (first
    | (go_at_call 50; (with_reducible refine (bnodeof_ok vs vr a m c2 kk hk hx0 _ HEd.out (fun B G hB hG => HS.out.run _ (HB2.out.trans (HBD.out.mono HB2.out.size)) B G (.inr (Nat.le_trans (Nat.le_trans HB2.out.size HBD.out.size) hB)) (.inr (Nat.le_trans (Nat.le_trans HB2.out.size HBD.out.size) hG)))).mono ?_); rintro e w3 ⟨rfl, hb⟩; have HB3 := Lib.hid (HBD.out.trans (hb.mono HBD.out.size)); have HW3 := Lib.hid (HWD.out.below hb); clear hb))
  refine hK.out _ _ (HS7.out _ _ HW3.out (UpT.below HB3.out)) (fun hHeld => ?_)
  clear hK K
  (try simp only [Act.put, List.getElem_toArray, List.getElem_cons_succ, List.getElem_cons_zero, List.setIfInBounds_toArray, List.set_cons_zero, List.set_cons_succ])
  refine wpAnyH_ready (rs := [9]) (by kernel_rfl) (by simp) ?_; refine AllReadyH.cons (by rfl) (fun K hK => ?_) AllReadyH.nil; rw [if_pos (by kernel_rfl)]; simp only [List.getElem_toArray, List.getElem_cons_succ, List.getElem_cons_zero]
  have HCl : Hid (∀ W, Below w3.heap.size w3 W → Calls Tryz.prog 51 #[.pointer (some ⟨w.heap.size, 0, none⟩), .pointer (some ⟨w.heap.size + 1, 0, none⟩)] W fun e w' => e = .returned (.tuple #[.int .i64 j, .int .i64 v, .nilIface]) ∧ BW w0 w' L { D with nt := upd D.nt j true, nW := freshV D.nW j (kcs kk m) } ∧ PBelow W w' L.a.B L.a.G) := Lib.hid (fun W hb => by
    have hbw : Below w2.heap.size w2 W := HB3.out.trans (hb.mono HB3.out.size)
    have hx := HX.out W (UpT.below hbw)
    have h1 := hbw.size
    have h2 := HSz.out
    have h3 := HTw.out
    have h4 := HLT.out
    exact bndcl_ok w.heap.size (w.heap.size + 1) vs vr a m c2 kk hk hx0 j hj hyes hno v hv W (HW3.out.below hb) (by omega) hx.1 hx.2 ((HE.out.up (HB2.out.trans (hbw.mono HB2.out.size)))) (HS.out.run W (HB2.out.trans (hbw.mono HB2.out.size)) _ _ (.inl (by omega)) (.inl (by omega))))
  go_wp2_with (first
    | (go_at_call 49; (with_reducible refine (bbuyn_w q hq w.heap.size (w.heap.size + 1) j v _ hj hfull hu _ HW3.out HCl.out).mono ?_); rintro e w4 ⟨rfl, hW, hu4⟩; have HW4 := Lib.hid hW; have HU4 := Lib.hid hu4; clear hW hu4))
  refine hK.out _ _ (HS7.out _ _ HW4.out ((UpT.below HB3.out).trans ⟨HU4.out.up.1, fun k h1 h2 => HU4.out.up.2 k (Nat.le_trans HTw.out h1) h2⟩)) (fun hHeld => ?_)
  clear hK K
  (try simp only [Act.put, List.getElem_toArray, List.getElem_cons_succ, List.getElem_cons_zero, List.setIfInBounds_toArray, List.set_cons_zero, List.set_cons_succ])
  refine wpAnyH_take (i := 10) (v := ?_) (by rfl) (by kernel_rfl) (by kernel_rfl) (by kernel_rfl) (fun _ _ _ h => h) (Or.inl ⟨by kernel_rfl, ?_⟩) (by assumption) ?_; rotate_left 1; (focus (intro w hSw; (try dsimp only at hSw); simp only [List.getElem_toArray, List.getElem_cons_succ, List.getElem_cons_zero]; all_goals go_simp; all_goals (try with_reducible rfl))); (try simp only [Act.put, List.getElem_toArray, List.getElem_cons_succ, List.getElem_cons_zero, List.setIfInBounds_toArray, List.set_cons_zero, List.set_cons_succ])
  refine wpAnyH_take (i := 11) (v := ?_) (by rfl) (by kernel_rfl) (by kernel_rfl) (by kernel_rfl) (fun _ _ _ h => h) (Or.inl ⟨by kernel_rfl, ?_⟩) (by assumption) ?_; rotate_left 1; (focus (intro w hSw; (try dsimp only at hSw); simp only [List.getElem_toArray, List.getElem_cons_succ, List.getElem_cons_zero]; all_goals go_simp; all_goals (try with_reducible rfl))); (try simp only [Act.put, List.getElem_toArray, List.getElem_cons_succ, List.getElem_cons_zero, List.setIfInBounds_toArray, List.set_cons_zero, List.set_cons_succ])
  refine wpAnyH_take (i := 12) (v := ?_) (by rfl) (by kernel_rfl) (by kernel_rfl) (by kernel_rfl) (fun _ _ _ h => h) (Or.inl ⟨by kernel_rfl, ?_⟩) (by assumption) ?_; rotate_left 1; (focus (intro w hSw; (try dsimp only at hSw); simp only [List.getElem_toArray, List.getElem_cons_succ, List.getElem_cons_zero]; all_goals go_simp; all_goals (try with_reducible rfl))); (try simp only [Act.put, List.getElem_toArray, List.getElem_cons_succ, List.getElem_cons_zero, List.setIfInBounds_toArray, List.set_cons_zero, List.set_cons_succ])
  refine wpAnyH_take (i := 13) (v := ?_) (by rfl) (by kernel_rfl) (by kernel_rfl) (by kernel_rfl) (fun _ _ _ h => h) (Or.inl ⟨by kernel_rfl, ?_⟩) (by assumption) ?_; rotate_left 1; (focus (intro w hSw; (try dsimp only at hSw); simp only [List.getElem_toArray, List.getElem_cons_succ, List.getElem_cons_zero]; all_goals go_simp; all_goals (try with_reducible rfl))); (try simp only [Act.put, List.getElem_toArray, List.getElem_cons_succ, List.getElem_cons_zero, List.setIfInBounds_toArray, List.set_cons_zero, List.set_cons_succ])
  refine wpAnyH_take (i := 14) (v := ?_) (by rfl) (by kernel_rfl) (by kernel_rfl) (by kernel_rfl) (fun _ _ _ h => h) (Or.inl ⟨by kernel_rfl, ?_⟩) (by assumption) ?_; rotate_left 1; (focus (intro w hSw; (try dsimp only at hSw); simp only [List.getElem_toArray, List.getElem_cons_succ, List.getElem_cons_zero]; all_goals go_simp; all_goals (try with_reducible rfl))); (try simp only [Act.put, List.getElem_toArray, List.getElem_cons_succ, List.getElem_cons_zero, List.setIfInBounds_toArray, List.set_cons_zero, List.set_cons_succ])
  refine wpAnyH_take (i := 15) (v := ?_) (by rfl) (by kernel_rfl) (by kernel_rfl) (by kernel_rfl) (fun _ _ _ h => h) (Or.inl ⟨by kernel_rfl, ?_⟩) (by assumption) ?_; rotate_left 1; (focus (intro w hSw; (try dsimp only at hSw); simp only [List.getElem_toArray, List.getElem_cons_succ, List.getElem_cons_zero]; all_goals go_simp; all_goals (try with_reducible rfl))); (try simp only [Act.put, List.getElem_toArray, List.getElem_cons_succ, List.getElem_cons_zero, List.setIfInBounds_toArray, List.set_cons_zero, List.set_cons_succ])
  refine wpAnyH_done (by kernel_rfl) ?_ _
  refine NoPanic.normal ?_
  go_wp2_with fail
  go_ret3
  exact ⟨rfl, HW4.out, ((UpM.below HB2.out).trans (UpM.below HB3.out)).trans HU4.out⟩
theorem BW.opened_w {w0 w w' : World} {L : BLoc} {D : BSt} (h : BW w0 w L D) (y lim : Int) (hy0 : -1 ≤ y) (hy1 : y < D.nb) (hn : D.nb < L.n) (hk : BkAt w' L.bB L.P L.p L.B L.A L.G1 L.G2 L.G3 L.n L.c L.mb L.dP (thN (D.nb + 1)) (fun _ => 0) (upd D.pr D.nb y) (upd D.us D.nb 0) (upd D.lm D.nb lim) D.o1 D.v1 D.o2 D.v2 D.o3 D.v3) (hb : PBelow w w' L.B L.A) : BW w0 w' L (openedB D y lim) ∧ UpM L w w' :=
  ⟨(h.opened y lim hy0 hy1 hn hk hb).1, UpM.pb hb (by have := h.tt; omega) (by have := h.tt; omega) (by have := h.lowD; omega) (by have := h.lowD; omega)⟩
theorem bwroot_w {w0 : World} {L : BLoc} {D : BSt} (lim : Int) (hl0 : 0 ≤ lim) (hl1 : lim ≤ 512) (k : Int) (hk : Hid ((D.nb : Int) = k)) (hn : D.nb < L.n) (w : World) (h : BW w0 w L D) :
    Calls Tryz.prog 12 #[.pointer (some ⟨L.P, 0, none⟩), .int .i64 lim] w fun e w' => e = .returned (.tuple #[.int .i64 k, .int .i64 0, .nilIface]) ∧ BW w0 w' L (openedB D (-1) lim) ∧ UpM L w w' := by
  rw [← hk.out]
  refine broot_of (P := L.P) _ _ _ _ rfl ((bopen_ok (-1) lim (by omega) (by omega) hl0 hl1 hn (Lib.hid h.pk) (Lib.hid (by rw [chL_neg _ _ (by omega)]; decide)) w h.kk).mono fun e w' ⟨h1, h2, h3⟩ => ⟨h1, h.opened_w (-1) lim (by omega) (by omega) hn h2 h3⟩)
end Go.Proofs.YtncopdhhchmpeaaGreatDoor
namespace Go.Proofs.YtncopdhhchmpeaaGreatDoor
open Go.ChangeShapes Go.WideShapes Go.ChangeAt Go.RowKit
set_option linter.unusedVariables false
set_option linter.unusedSimpArgs false
/-- A domain's cells in a row. -/
def rowL (f : Nat → Value) : List Value := (List.range 107).map f
theorem rowL_len (f : Nat → Value) : (rowL f).length = 107 := by simp [rowL]
theorem rowL_size (f : Nat → Value) : (rowL f).toArray.size = 107 := by simp [rowL]
theorem rowL_one (f : Nat → Value) (h : ∀ j, j < 107 → (f j).oneCell' = true) : (rowL f).toArray.all (·.oneCell') = true := all_oneCell_toArray (fun v hv => by
  obtain ⟨j, hj, rfl⟩ := List.mem_map.1 hv
  exact h j (by simpa using hj))
theorem dthere_new (w : World) (z : Array Value) (n : Nat) (hz : z.size = n) (T : TypeId) : World.there (w.alloc (.cells z T (0, 0))) w.heap.size 0 n := fun j hj => by
  simp [hz, hj]
theorem dbelow_cells {N b : Nat} {W0 w : World} (h : Below N W0 w) (hb : N ≤ b) : ∀ (cs : List Value) (o : Nat), Below N W0 (w.setCells b o cs) := by
  intro cs
  induction cs generalizing w with
  | nil => intro o; exact h
  | cons u r ih => intro o; exact ih (h.setCell hb u) (o + 1)
theorem dload {W : World} {b : Nat} {f : Nat → Value} (hr : W.rangeAt b 0 (rowL f)) : (loadVar 171 ⟨b, 0, none⟩).run Tryz.prog W = .ok (.agg (rowL f).toArray) W :=
  run_loadVar_mid (P := Tryz.prog) W b 0 171 (rowL f) _ hr Tryz.underlying171 rfl (by rw [rowL_len]; exact infoDomS)
section
variable {P : Program}
end
/-- Keys among a domain's cells. -/
def KeysIn (f : Nat → Value) (kk : Nat → Nat → Int) : Prop := ∀ q r, q < 19 → r < 5 → f (11 + (q * 5 + r)) = kval r (kk q r)
end Go.Proofs.YtncopdhhchmpeaaGreatDoor
namespace Go.Proofs.YtncopdhhchmpeaaGreatDoor
open Go.ChangeShapes Go.WideShapes Go.ChangeAt Go.RowKit
set_option linter.unusedVariables false
set_option linter.unusedSimpArgs false
theorem athere_dead {base p B n c : Nat} {th : Nat → Bool} {vr : Nat → Int} (k : Nat) (x : Int) (hx : Hid (x = (k : Int))) (ht : Hid (th k = false)) (w : World) (hA : ArAt w base p B n c th vr) : Calls Tryz.prog 63 #[.pointer (some ⟨p, 0, none⟩), .int .i64 x] w fun e w' => e = .returned (.bool false) ∧ w = w' := by
  rw [hx.out]
  exact athere_is (k : Int) false (Lib.hid (by unfold thereB; rw [Int.toNat_natCast, ht.out]; simp)) w hA
end Go.Proofs.YtncopdhhchmpeaaGreatDoor
namespace Go.Proofs.YtncopdhhchmpeaaGreatDoor
open Go.ChangeShapes Go.WideShapes Go.ChangeAt Go.RowKit
set_option linter.unusedVariables false
set_option linter.unusedSimpArgs false
/-- A domain of such a state, such a wait. -/
def fX (s wt : Int) (j : Nat) : Value := if j = 9 then .int .i64 s else if j = 106 then .int .i64 wt else zd1 j
end Go.Proofs.YtncopdhhchmpeaaGreatDoor
namespace Go.Proofs.YtncopdhhchmpeaaGreatDoor
open Go.ChangeShapes Go.WideShapes Go.ChangeAt Go.RowKit
set_option linter.unusedVariables false
set_option linter.unusedSimpArgs false
set_option maxRecDepth 100000 in
set_option maxHeartbeats 4000000 in
theorem dget_dead {base P p B G Q n c : Nat} {th : Nat → Bool} {vr_ : Nat → Int} {W : Nat → Nat → Value} (x : Int) (k : Nat) (hx : Hid (x = (k : Int))) (ht : Hid (th k = false)) (w : World) (h : DsAt w base P p B G Q n c th vr_ W) :
    Calls Tryz.prog 98 #[.pointer (some ⟨P, 0, none⟩), .int .i64 x] w fun e w' => e = .returned (.tuple #[.agg (rowL zd).toArray, .bool false]) ∧ Below w.heap.size w w' := by
  have H := Lib.hid h
  clear h
  go_enter Tryz.func98, Tryz.ntmps98
  go_upto_region 1 with fail
  generalize hA : World.alloc w _ = wA
  have HA : Hid (Below w.heap.size w wA ∧ World.there wA w.heap.size 0 107) := Lib.hid (by rw [← hA]; exact ⟨(Below.refl _ _).alloc (Nat.le_refl _) _, dthere_new _ _ _ (by rfl) _⟩)
  clear hA
  have H1 := Lib.hid (H.out.below HA.out.1)
  have f0 := H1.out.pl.f0
  have f1 := H1.out.pl.f1
  go_upto_region 2 with (first
    | (go_at_call 63; (with_reducible refine (athere_dead k x hx ht _ H1.out.pl.ar).mono ?_); rintro e w1 ⟨rfl, rfl⟩))
  have hz : ∀ w : World, (zeroValue 171).run Tryz.prog w = .ok (.agg (rowL zd).toArray) w := fun _ => by kernel_rfl
  go_wp2_with (first
    | (refine wpList_store_mid (by rfl) _ _ _ (by rfl) w.heap.size 0 (rowL zd).toArray (by rfl) (by rfl) HA.out.2 (by rw [rowL_size]; exact infoDomS) (rowL_one zd (fun j _ => zd_one j)) ?_))
  have hr : (wA.setCells w.heap.size 0 (rowL zd).toArray.toList).rangeAt w.heap.size 0 (rowL zd) := World.rangeAt_setCells_same wA w.heap.size 0 (rowL zd) (by rw [rowL_len]; exact HA.out.2)
  have hld := dload hr
  refine bodyPost_ret (v := .tuple #[.agg (rowL zd).toArray, .bool false]) (by simp [results, Tryz.results98, asAddr, hld]) rfl ⟨rfl, dbelow_cells HA.out.1 (Nat.le_refl _) _ _⟩
section
variable {s m d t b f q : Nat} {st : Int}
set_option maxRecDepth 100000 in
set_option maxHeartbeats 4000000 in
theorem slive_start (k1 k2 k3 k4 : Int) (dp dR n c base : Nat) (th : Nat → Bool) (vr : Nat → Int) (r : Bool) (hr : Hid ((thereB n th k1 && (vr k1.toNat == k2)) = r)) (w : World) (hB : SyB w s m d t b f q st) (hP : w.cell? ⟨d, 0, none⟩ = some (.pointer (some ⟨dp, 0, none⟩))) (hA : ArAt w base dp dR n c th vr) :
    Calls Tryz.prog 21 #[.pointer (some ⟨s, 0, none⟩), .agg #[.int .i64 5, .int .i64 k1, .int .i64 k2, .int .i64 k3, .int .u32 k4]] w fun e w' => e = .returned (.bool r) ∧ Below w.heap.size w w' := by
  have HA := Lib.hid (fun W (hW : Below w.heap.size w W) => alive_is k1 k2 r hr W (hA.below hW))
  have HB := Lib.hid hB
  have HP := Lib.hid hP
  have hdl : d < w.heap.size := cell_lt hP
  clear hA hB hP
  go_enter Tryz.func21, Tryz.ntmps21
  go_upto_region 1 with fail
  generalize hA : World.alloc w _ = wA
  obtain ⟨K, hK⟩ : ∃ K, K = w.heap.size := ⟨_, rfl⟩
  have HBa : Hid (Below w.heap.size w wA) := Lib.hid (by rw [← hA]; exact (Below.refl _ _).alloc (Nat.le_refl _) _)
  have kc0 : wA.cell? ⟨K, 0, none⟩ = some (.int .i64 5) := by rw [← hA, hK]; simp
  have kc1 : wA.cell? ⟨K, 1, none⟩ = some (.int .i64 k1) := by rw [← hA, hK]; simp
  have kc2 : wA.cell? ⟨K, 2, none⟩ = some (.int .i64 k2) := by rw [← hA, hK]; simp
  have sc := ((HB.out.below HBa.out).c1)
  have pc := (HBa.out.cell (p := ⟨d, 0, none⟩) hdl).trans HP.out
  rw [← hK]
  clear hA hK hdl
  go_wp2_with fail
  have HA9 := Lib.hid (fun n => HA.out (wA.drewN n) (below_drewN HBa.out n))
  go_quiet ((go_at_call 67; exact kquiet_left (HA9.out _)))
  go_wp2_with fail
  go_ret
  exact ⟨rfl, below_drewN HBa.out _⟩
end
end Go.Proofs.YtncopdhhchmpeaaGreatDoor
namespace Go.Proofs.YtncopdhhchmpeaaGreatDoor
open Go.ChangeShapes Go.WideShapes Go.ChangeAt Go.RowKit
set_option linter.unusedVariables false
set_option linter.unusedSimpArgs false
theorem zsize : Tryz.zeroCells171.size = 107 := by kernel_rfl
theorem row_put (w2 : World) (b : Nat) (F : Nat → Value) (ht : w2.there b 0 107) (ho : ∀ j, j < 107 → (F j).oneCell' = true) : Sem.run Tryz.prog (storeCells ⟨b, 0, none⟩ (rowL F)) w2 = .ok () (w2.setCells b 0 (rowL F)) := by
  have h := run_storeCells_cells (P := Tryz.prog) b 0 (rowL F) 0 w2 (fun j hj => by rw [rowL_len] at hj; have := (ht j hj).1; simpa using this) (fun j hj => by rw [rowL_len] at hj; have := (ht j hj).2; simpa using this) (fun v hv => by obtain ⟨j, hj, rfl⟩ := List.mem_map.1 hv; exact ho j (by simpa using hj))
  simpa using h
theorem row_new (w2 : World) (F : Nat → Value) (ho : ∀ j, j < 107 → (F j).oneCell' = true) : Sem.run Tryz.prog (storeCells ⟨w2.heap.size, 0, none⟩ (rowL F)) (w2.alloc (.cells Tryz.zeroCells171 171 (0, 0))) = .ok () ((w2.alloc (.cells Tryz.zeroCells171 171 (0, 0))).setCells w2.heap.size 0 (rowL F)) := row_put _ _ F (dthere_new w2 Tryz.zeroCells171 107 zsize 171) ho
theorem there_below {w w2 : World} {b : Nat} (h : w.there b 0 107) (hb : Below w.heap.size w w2) (hl : b < w.heap.size) : w2.there b 0 107 := fun j hj => ⟨by rw [hb.cell (p := ⟨b, 0 + j, none⟩) hl]; exact (h j hj).1, by rw [hb.frozen (p := ⟨b, 0 + j, none⟩) hl]; exact (h j hj).2⟩
theorem there_drew {w : World} {b : Nat} (h : w.there b 0 107) : w.drew.there b 0 107 := fun j hj => ⟨by simpa using (h j hj).1, by simpa using (h j hj).2⟩
section
variable {s m d t b f q : Nat} {st : Int}
set_option maxRecDepth 100000 in
set_option maxHeartbeats 4000000 in
theorem swaits_dead (k1 k2 k3 k4 : Int) (dp : Nat) (F : Nat → Value) (hF : Hid (∀ j, j < 107 → (F j).oneCell' = true)) (h40 : 0 ≤ k4) (h41 : k4 ≤ 536870911) (w : World) (hB : SyB w s m d t b f q st) (hP : w.cell? ⟨d, 0, none⟩ = some (.pointer (some ⟨dp, 0, none⟩)))
    (hG : ∀ W, Below w.heap.size w W → Calls Tryz.prog 98 #[.pointer (some ⟨d, 0, none⟩), .int .i64 k1] W fun e w' => e = .returned (.tuple #[.agg (rowL F).toArray, .bool false]) ∧ Below W.heap.size W w') :
    Calls Tryz.prog 68 #[.pointer (some ⟨s, 0, none⟩), .agg #[.int .i64 6, .int .i64 k1, .int .i64 k2, .int .i64 k3, .int .u32 k4]] w fun e w' => e = .returned (.bool false) ∧ Below w.heap.size w w' := by
  have HG := Lib.hid hG
  have HB := Lib.hid hB
  have HP := Lib.hid hP
  have HdL : Hid (d < w.heap.size) := Lib.hid (cell_lt hP)
  clear hG hB hP
  go_enter Tryz.func68, Tryz.ntmps68
  go_upto_region 1 with fail
  generalize hA : World.alloc w _ = wA
  obtain ⟨K, hK⟩ : ∃ K, K = w.heap.size := ⟨_, rfl⟩
  have HBa : Hid (Below w.heap.size w wA) := Lib.hid (by rw [← hA]; exact (Below.refl _ _).alloc (Nat.le_refl _) _)
  have HK0 : Hid (KeyC wA K 6 k1 k2 k3 k4) := Lib.hid (by rw [← hA, hK]; exact KeyC.new w 6 k1 k2 k3 k4 _)
  rw [← hK]
  clear hA hK
  go_cut [5, 6] (fun u o wx => ∃ bx : Nat, u = .pointer (some ⟨bx, 0, none⟩) ∧ o = .bool false ∧ Below w.heap.size w wx ∧ KeyC wx K 6 k1 k2 k3 k4 ∧ wx.rangeAt bx 0 (rowL F))
  case first =>
    have sc := ((HB.out.below HBa.out).c1)
    have kc1 := HK0.out.c1
    have HBd : Hid (Below wA.heap.size wA wA.drew) := Lib.hid (Below.refl _ _).drew
    have HBo : Hid (∀ o, Below wA.heap.size wA (wA.alloc o).drew) := Lib.hid (fun o => ((Below.refl _ _).alloc (Nat.le_refl _) o).drew)
    have scA : ∀ o, (wA.alloc o).cell? ⟨s, 1, none⟩ = some (.pointer (some ⟨d, 0, none⟩)) := fun o => ((HB.out.below HBa.out).below ((Below.refl wA.heap.size wA).alloc (Nat.le_refl _) o)).c1
    have kcA : ∀ o, (wA.alloc o).cell? ⟨K, 1, none⟩ = some (.int .i64 k1) := fun o => (HK0.out.below ((Below.refl wA.heap.size wA).alloc (Nat.le_refl _) o)).c1
    go_region_with (first | (go_at_call 98; (with_reducible refine (HG.out _ (HBa.out.trans (HBd.out.mono HBa.out.size))).mono ?_); rintro e w2 ⟨rfl, hb⟩; have HBB := Lib.hid hb; have hsN := row_new w2 F hF.out; clear hb) | (go_at_call 98; (with_reducible refine (HG.out _ (HBa.out.trans ((HBo.out _).mono HBa.out.size))).mono ?_); rintro e w2 ⟨rfl, hb⟩; have HBA := Lib.hid hb; have HTh := Lib.hid (there_below (there_drew (dthere_new wA Tryz.zeroCells171 107 zsize 171)) hb (by simp)); have hsN := row_put w2 wA.heap.size F HTh.out hF.out; clear hb))
    all_goals (go_wp2_with fail; go_meet; clear sc kc1 scA kcA)
    all_goals (first
      | (have hz : wA.heap.size ≤ w2.heap.size := HBB.out.size; have hb := dbelow_cells ((HBd.out.trans (HBB.out.mono (by simp))).alloc hz (.cells Tryz.zeroCells171 171 (0, 0))) hz (rowL F) 0; exact ⟨_, rfl, rfl, HBa.out.trans (hb.mono HBa.out.size), HK0.out.below hb, World.rangeAt_setCells_same _ _ 0 (rowL F) (by rw [rowL_len]; exact dthere_new _ _ 107 zsize _)⟩)
      | (have hb := dbelow_cells ((HBo.out _).trans (HBA.out.mono (by simp))) (Nat.le_refl _) (rowL F) 0; exact ⟨_, rfl, rfl, HBa.out.trans (hb.mono HBa.out.size), HK0.out.below hb, World.rangeAt_setCells_same _ _ 0 (rowL F) (by rw [rowL_len]; exact HTh.out)⟩))
  case rest =>
    obtain ⟨bx, rfl, rfl, hb, ky, hr⟩ := hcut
    have HC := Lib.hid hb
    have q1 := ky.c1
    have q2 := ky.c2
    have q4 := ky.c4
    have sc := (HB.out.below hb).c1
    have pc := (hb.cell (p := ⟨d, 0, none⟩) HdL.out).trans HP.out
    have hk4 : IntKind.i64.wrap k4 = k4 := by rw [IntKind.wrap_i64]; omega
    clear hb ky hr
    go_wp2_with fail
    go_quiet (fail)
    go_wp2_with fail
    go_ret
    exact ⟨rfl, below_drewN HC.out _⟩
set_option maxRecDepth 100000 in
set_option maxHeartbeats 4000000 in
theorem slive_resume (k1 k2 k3 k4 : Int) (r : Bool) (w : World) (hC : ∀ W, Below w.heap.size w W → Calls Tryz.prog 68 #[.pointer (some ⟨s, 0, none⟩), .agg #[.int .i64 6, .int .i64 k1, .int .i64 k2, .int .i64 k3, .int .u32 k4]] W fun e w' => e = .returned (.bool r) ∧ Below W.heap.size W w') :
    Calls Tryz.prog 21 #[.pointer (some ⟨s, 0, none⟩), .agg #[.int .i64 6, .int .i64 k1, .int .i64 k2, .int .i64 k3, .int .u32 k4]] w fun e w' => e = .returned (.bool r) ∧ Below w.heap.size w w' := by
  have HC := Lib.hid hC
  clear hC
  go_enter Tryz.func21, Tryz.ntmps21
  go_upto_region 1 with fail
  generalize hA : World.alloc w _ = wA
  obtain ⟨K, hK⟩ : ∃ K, K = w.heap.size := ⟨_, rfl⟩
  have HBa : Hid (Below w.heap.size w wA) := Lib.hid (by rw [← hA]; exact (Below.refl _ _).alloc (Nat.le_refl _) _)
  have HK0 : Hid (KeyC wA K 6 k1 k2 k3 k4) := Lib.hid (by rw [← hA, hK]; exact KeyC.new w 6 k1 k2 k3 k4 _)
  have kc0 := HK0.out.c0
  have kc1 := HK0.out.c1
  have kc2 := HK0.out.c2
  have kc3 := HK0.out.c3
  have kc4 := HK0.out.c4
  rw [← hK]
  clear hA hK
  go_wp2_with (first
    | (go_at_call 68; (with_reducible refine (HC.out _ HBa.out).mono ?_); rintro e w1 ⟨rfl, hb⟩; have HB1 := Lib.hid (HBa.out.trans (hb.mono HBa.out.size)); clear hb))
  go_ret
  exact ⟨rfl, HB1.out⟩
end
end Go.Proofs.YtncopdhhchmpeaaGreatDoor
namespace Go.Proofs.YtncopdhhchmpeaaGreatDoor
open Go.ChangeShapes Go.WideShapes Go.ChangeAt Go.RowKit
set_option linter.unusedVariables false
set_option linter.unusedSimpArgs false
section
variable {s m d t b f q : Nat} {st : Int}
set_option maxRecDepth 100000 in
set_option maxHeartbeats 4000000 in
theorem slive_maker_no (k1 k2 k3 k4 : Int) (dp dR n c base : Nat) (th : Nat → Bool) (vr : Nat → Int) (hr : Hid ((thereB n th k1 && (vr k1.toNat == k2)) = false)) (w : World) (hB : SyB w s m d t b f q st) (hP : w.cell? ⟨f, 0, none⟩ = some (.pointer (some ⟨dp, 0, none⟩))) (hA : ArAt w base dp dR n c th vr) :
    Calls Tryz.prog 21 #[.pointer (some ⟨s, 0, none⟩), .agg #[.int .i64 9, .int .i64 k1, .int .i64 k2, .int .i64 k3, .int .u32 k4]] w fun e w' => e = .returned (.bool false) ∧ Below w.heap.size w w' := by
  have HA := Lib.hid (fun W (hW : Below w.heap.size w W) => alive_is k1 k2 false hr W (hA.below hW))
  have HB := Lib.hid hB
  have HP := Lib.hid hP
  have hdl : f < w.heap.size := cell_lt hP
  clear hA hB hP
  go_enter Tryz.func21, Tryz.ntmps21
  go_upto_region 1 with fail
  generalize hA : World.alloc w _ = wA
  obtain ⟨K, hK⟩ : ∃ K, K = w.heap.size := ⟨_, rfl⟩
  have HBa : Hid (Below w.heap.size w wA) := Lib.hid (by rw [← hA]; exact (Below.refl _ _).alloc (Nat.le_refl _) _)
  have kc0 : wA.cell? ⟨K, 0, none⟩ = some (.int .i64 9) := by rw [← hA, hK]; simp
  have kc1 : wA.cell? ⟨K, 1, none⟩ = some (.int .i64 k1) := by rw [← hA, hK]; simp
  have kc2 : wA.cell? ⟨K, 2, none⟩ = some (.int .i64 k2) := by rw [← hA, hK]; simp
  have sc := ((HB.out.below HBa.out).c4)
  have pc := (HBa.out.cell (p := ⟨f, 0, none⟩) hdl).trans HP.out
  rw [← hK]
  clear hA hK hdl
  go_wp2_with fail
  have HA9 := Lib.hid (fun n => HA.out (wA.drewN n) (below_drewN HBa.out n))
  go_quiet ((go_at_call 67; exact kquiet_left (HA9.out _)))
  go_wp2_with fail
  go_ret
  exact ⟨rfl, below_drewN HBa.out _⟩
set_option maxRecDepth 100000 in
set_option maxHeartbeats 4000000 in
theorem slive_builder_no (k1 k2 k3 k4 : Int) (dp dR n c base : Nat) (th : Nat → Bool) (vr : Nat → Int) (hr : Hid ((thereB n th k1 && (vr k1.toNat == k2)) = false)) (w : World) (hB : SyB w s m d t b f q st) (hP : w.cell? ⟨f, 0, none⟩ = some (.pointer (some ⟨dp, 0, none⟩))) (hA : ArAt w base dp dR n c th vr) :
    Calls Tryz.prog 21 #[.pointer (some ⟨s, 0, none⟩), .agg #[.int .i64 10, .int .i64 k1, .int .i64 k2, .int .i64 k3, .int .u32 k4]] w fun e w' => e = .returned (.bool false) ∧ Below w.heap.size w w' := by
  have HA := Lib.hid (fun W (hW : Below w.heap.size w W) => alive_is k1 k2 false hr W (hA.below hW))
  have HB := Lib.hid hB
  have HP := Lib.hid hP
  have hdl : f < w.heap.size := cell_lt hP
  clear hA hB hP
  go_enter Tryz.func21, Tryz.ntmps21
  go_upto_region 1 with fail
  generalize hA : World.alloc w _ = wA
  obtain ⟨K, hK⟩ : ∃ K, K = w.heap.size := ⟨_, rfl⟩
  have HBa : Hid (Below w.heap.size w wA) := Lib.hid (by rw [← hA]; exact (Below.refl _ _).alloc (Nat.le_refl _) _)
  have kc0 : wA.cell? ⟨K, 0, none⟩ = some (.int .i64 10) := by rw [← hA, hK]; simp
  have kc1 : wA.cell? ⟨K, 1, none⟩ = some (.int .i64 k1) := by rw [← hA, hK]; simp
  have kc2 : wA.cell? ⟨K, 2, none⟩ = some (.int .i64 k2) := by rw [← hA, hK]; simp
  have sc := ((HB.out.below HBa.out).c4)
  have pc := (HBa.out.cell (p := ⟨f, 0, none⟩) hdl).trans HP.out
  rw [← hK]
  clear hA hK hdl
  go_wp2_with fail
  have HA9 := Lib.hid (fun n => HA.out (wA.drewN n) (below_drewN HBa.out n))
  go_quiet ((go_at_call 67; exact kquiet_left (HA9.out _)))
  go_wp2_with fail
  go_ret
  exact ⟨rfl, below_drewN HBa.out _⟩
end
theorem slive_plain (s : Nat) (k0 k1 k2 k3 k4 : Int) (hk : k0 = 0 ∨ k0 = 1 ∨ k0 = 11 ∨ k0 = 12 ∨ k0 = 13 ∨ k0 = 14) (w : World) : Calls Tryz.prog 21 #[.pointer (some ⟨s, 0, none⟩), (Value.agg #[.int .i64 k0, .int .i64 k1, .int .i64 k2, .int .i64 k3, .int .u32 k4])] w fun e w' => e = .returned (.bool true) ∧ Below w.heap.size w w' := by
  rcases hk with rfl | rfl | rfl | rfl | rfl | rfl
  all_goals
    go_enter Tryz.func21, Tryz.ntmps21
    go_wp2_with fail
    go_ret
    exact ⟨rfl, (Below.refl _ _).alloc (Nat.le_refl _) _⟩
set_option maxRecDepth 100000 in
set_option maxHeartbeats 4000000 in
theorem slive_mem {S : Nat} {a b : Shp} {th : Nat → Bool} {vr_ : Nat → Int} {W : Nat → Nat → Value} {th2 : Nat → Bool} {vr2 : Nat → Int} {W2 : Nat → Nat → Int} (s m : Nat) (k0 k1 k2 k3 k4 : Int) (hk : k0 = 2 ∨ k0 = 3) (r : Bool) (hr : Hid (liveB a b th vr_ th2 vr2 k0 k1 k2 = r)) (w : World) (h0 : w.cell? ⟨s, 0, none⟩ = some (.pointer (some ⟨m, 0, none⟩))) (h1 : w.cell? ⟨m, 0, none⟩ = some (.pointer (some ⟨S, 0, none⟩))) (h : (StAt w S a b th vr_ W th2 vr2 W2)) :
    Calls Tryz.prog 21 #[.pointer (some ⟨s, 0, none⟩), (Value.agg #[.int .i64 k0, .int .i64 k1, .int .i64 k2, .int .i64 k3, .int .u32 k4])] w fun e w' => e = .returned (.bool r) ∧ Below w.heap.size w w' := by
  have H := Lib.hid h
  have HL := Lib.hid (⟨cell_lt h0, cell_lt h1, h0, h1⟩ : s < w.heap.size ∧ m < w.heap.size ∧ w.cell? ⟨s, 0, none⟩ = some (.pointer (some ⟨m, 0, none⟩)) ∧ w.cell? ⟨m, 0, none⟩ = some (.pointer (some ⟨S, 0, none⟩)))
  clear h h0 h1
  rcases hk with rfl | rfl
  · go_enter Tryz.func21, Tryz.ntmps21; go_upto_region 1 with fail; generalize hA : World.alloc w _ = wA; obtain ⟨KB, hKB⟩ : ∃ KB, KB = w.heap.size := ⟨_, rfl⟩; have HA : Hid (Below w.heap.size w wA ∧ KeyC wA KB 2 k1 k2 k3 k4) := (Lib.hid (by rw [← hA, hKB]; exact ⟨(Below.refl _ _).alloc (Nat.le_refl _) _, KeyC.new w 2 k1 k2 k3 k4 _⟩)); rw [← hKB]; clear hA hKB; have q0 := HA.out.2.c0; go_upto_region 11 with fail; have HSK : Hid (∀ W, Below wA.heap.size wA W → (World.cell? W ⟨s, 0, none⟩ = some (.pointer (some ⟨m, 0, none⟩)) ∧ World.cell? W ⟨m, 0, none⟩ = some (.pointer (some ⟨S, 0, none⟩)) ∧ (World.cell? W ⟨KB, 0, none⟩ = some (.int .i64 2) ∧ World.cell? W ⟨KB, 1, none⟩ = some (.int .i64 k1) ∧ World.cell? W ⟨KB, 2, none⟩ = some (.int .i64 k2) ∧ World.cell? W ⟨KB, 3, none⟩ = some (.int .i64 k3) ∧ World.cell? W ⟨KB, 4, none⟩ = some (.int .u32 k4)))) := (Lib.hid (fun W hW => ⟨((HA.out.1.trans (hW.mono HA.out.1.size)).cell (p := ⟨s, 0, none⟩) HL.out.1).trans HL.out.2.2.1, ((HA.out.1.trans (hW.mono HA.out.1.size)).cell (p := ⟨m, 0, none⟩) HL.out.2.1).trans HL.out.2.2.2, ofive (HA.out.2.below hW)⟩)); obtain ⟨wD, hwD⟩ : ∃ wD, wD = wA.drew := ⟨_, rfl⟩; have HBd : Hid (Below wA.heap.size wA wD) := (Lib.hid (by rw [hwD]; exact (Below.refl _ _).drew)); refine wp_region_noPanic ?_; refine wp_region_held_drew (S := fun W => (World.cell? W ⟨s, 0, none⟩ = some (.pointer (some ⟨m, 0, none⟩)) ∧ World.cell? W ⟨m, 0, none⟩ = some (.pointer (some ⟨S, 0, none⟩)) ∧ (World.cell? W ⟨KB, 0, none⟩ = some (.int .i64 2) ∧ World.cell? W ⟨KB, 1, none⟩ = some (.int .i64 k1) ∧ World.cell? W ⟨KB, 2, none⟩ = some (.int .i64 k2) ∧ World.cell? W ⟨KB, 3, none⟩ = some (.int .i64 k3) ∧ World.cell? W ⟨KB, 4, none⟩ = some (.int .u32 k4)))) (by kernel_rfl) (by rw [← hwD]; exact HSK.out _ HBd.out) (fun hHeld => ?_); rw [← hwD] at hHeld ⊢; clear hwD; refine wpAnyH_take (i := 0) (v := ?_) (by rfl) (by kernel_rfl) (by kernel_rfl) (by kernel_rfl) (fun _ _ _ h => h) (Or.inl ⟨by kernel_rfl, ?_⟩) (by assumption) ?_; rotate_left 1; (focus (intro w hSw; (try dsimp only at hSw); simp only [List.getElem_toArray, List.getElem_cons_succ, List.getElem_cons_zero]; all_goals go_simp; all_goals (try with_reducible rfl))); (try simp only [Act.put, List.getElem_toArray, List.getElem_cons_succ, List.getElem_cons_zero, List.setIfInBounds_toArray, List.set_cons_zero, List.set_cons_succ]); refine wpAnyH_take (i := 1) (v := ?_) (by rfl) (by kernel_rfl) (by kernel_rfl) (by kernel_rfl) (fun _ _ _ h => h) (Or.inl ⟨by kernel_rfl, ?_⟩) (by assumption) ?_; rotate_left 1; (focus (intro w hSw; (try dsimp only at hSw); simp only [List.getElem_toArray, List.getElem_cons_succ, List.getElem_cons_zero]; all_goals go_simp; all_goals (try with_reducible rfl))); (try simp only [Act.put, List.getElem_toArray, List.getElem_cons_succ, List.getElem_cons_zero, List.setIfInBounds_toArray, List.set_cons_zero, List.set_cons_succ]); refine wpAnyH_take (i := 2) (v := ?_) (by rfl) (by kernel_rfl) (by kernel_rfl) (by kernel_rfl) (fun _ _ _ h => h) (Or.inl ⟨by kernel_rfl, ?_⟩) (by assumption) ?_; rotate_left 1; (focus (intro w hSw; (try dsimp only at hSw); simp only [List.getElem_toArray, List.getElem_cons_succ, List.getElem_cons_zero]; all_goals go_simp; all_goals (try with_reducible rfl))); (try simp only [Act.put, List.getElem_toArray, List.getElem_cons_succ, List.getElem_cons_zero, List.setIfInBounds_toArray, List.set_cons_zero, List.set_cons_succ]); refine wpAnyH_take (i := 3) (v := ?_) (by rfl) (by kernel_rfl) (by kernel_rfl) (by kernel_rfl) (fun _ _ _ h => h) (Or.inl ⟨by kernel_rfl, ?_⟩) (by assumption) ?_; rotate_left 1; (focus (intro w hSw; (try dsimp only at hSw); simp only [List.getElem_toArray, List.getElem_cons_succ, List.getElem_cons_zero]; all_goals go_simp; all_goals (try with_reducible rfl))); (try simp only [Act.put, List.getElem_toArray, List.getElem_cons_succ, List.getElem_cons_zero, List.setIfInBounds_toArray, List.set_cons_zero, List.set_cons_succ]); refine wpAnyH_take (i := 4) (v := ?_) (by rfl) (by kernel_rfl) (by kernel_rfl) (by kernel_rfl) (fun _ _ _ h => h) (Or.inl ⟨by kernel_rfl, ?_⟩) (by assumption) ?_; rotate_left 1; (focus (intro w hSw; (try dsimp only at hSw); simp only [List.getElem_toArray, List.getElem_cons_succ, List.getElem_cons_zero]; all_goals go_simp; all_goals (try with_reducible rfl))); (try simp only [Act.put, List.getElem_toArray, List.getElem_cons_succ, List.getElem_cons_zero, List.setIfInBounds_toArray, List.set_cons_zero, List.set_cons_succ]); refine wpAnyH_take (i := 5) (v := ?_) (by rfl) (by kernel_rfl) (by kernel_rfl) (by kernel_rfl) (fun _ _ _ h => h) (Or.inl ⟨by kernel_rfl, ?_⟩) (by assumption) ?_; rotate_left 1; (focus (intro w hSw; (try dsimp only at hSw); simp only [List.getElem_toArray, List.getElem_cons_succ, List.getElem_cons_zero]; all_goals go_simp; all_goals (try with_reducible rfl))); (try simp only [Act.put, List.getElem_toArray, List.getElem_cons_succ, List.getElem_cons_zero, List.setIfInBounds_toArray, List.set_cons_zero, List.set_cons_succ]); refine wpAnyH_take (i := 6) (v := ?_) (by rfl) (by kernel_rfl) (by kernel_rfl) (by kernel_rfl) (fun _ _ _ h => h) (Or.inl ⟨by kernel_rfl, ?_⟩) (by assumption) ?_; rotate_left 1; (focus (intro w hSw; (try dsimp only at hSw); simp only [List.getElem_toArray, List.getElem_cons_succ, List.getElem_cons_zero]; all_goals go_simp; all_goals (try with_reducible rfl))); (try simp only [Act.put, List.getElem_toArray, List.getElem_cons_succ, List.getElem_cons_zero, List.setIfInBounds_toArray, List.set_cons_zero, List.set_cons_succ]); refine wpAnyH_take (i := 7) (v := ?_) (by rfl) (by kernel_rfl) (by kernel_rfl) (by kernel_rfl) (fun _ _ _ h => h) (Or.inl ⟨by kernel_rfl, ?_⟩) (by assumption) ?_; rotate_left 1; (focus (intro w hSw; (try dsimp only at hSw); simp only [List.getElem_toArray, List.getElem_cons_succ, List.getElem_cons_zero]; all_goals go_simp; all_goals (try with_reducible rfl))); (try simp only [Act.put, List.getElem_toArray, List.getElem_cons_succ, List.getElem_cons_zero, List.setIfInBounds_toArray, List.set_cons_zero, List.set_cons_succ]); refine wpAnyH_ready (rs := [8]) (by kernel_rfl) (by simp) ?_; refine AllReadyH.cons (by rfl) (fun K hK => ?_) AllReadyH.nil; rw [if_pos (by kernel_rfl)]; simp only [List.getElem_toArray, List.getElem_cons_succ, List.getElem_cons_zero]; go_wp2_with (first | (go_at_call 66; (with_reducible refine (slive_at 2 k1 k2 k3 k4 r hr _ (H.out.below (HA.out.1.trans (HBd.out.mono HA.out.1.size)))).mono ?_); rintro e w9 ⟨rfl, hb⟩; have HB9 := (Lib.hid (HBd.out.trans (hb.mono HBd.out.size))); clear hb)); refine hK.out _ _ (HSK.out _ HB9.out) (fun hHeld => ?_); clear hK K; (try simp only [Act.put, List.getElem_toArray, List.getElem_cons_succ, List.getElem_cons_zero, List.setIfInBounds_toArray, List.set_cons_zero, List.set_cons_succ]); refine wpAnyH_take (i := 9) (v := ?_) (by rfl) (by kernel_rfl) (by kernel_rfl) (by kernel_rfl) (fun _ _ _ h => h) (Or.inl ⟨by kernel_rfl, ?_⟩) (by assumption) ?_; rotate_left 1; (focus (intro w hSw; (try dsimp only at hSw); simp only [List.getElem_toArray, List.getElem_cons_succ, List.getElem_cons_zero]; all_goals go_simp; all_goals (try with_reducible rfl))); (try simp only [Act.put, List.getElem_toArray, List.getElem_cons_succ, List.getElem_cons_zero, List.setIfInBounds_toArray, List.set_cons_zero, List.set_cons_succ]); refine wpAnyH_done (by kernel_rfl) ?_ _; refine NoPanic.normal ?_; go_wp2_with fail; go_ret; exact ⟨rfl, HA.out.1.trans (HB9.out.mono HA.out.1.size)⟩
  · go_enter Tryz.func21, Tryz.ntmps21; go_upto_region 1 with fail; generalize hA : World.alloc w _ = wA; obtain ⟨KB, hKB⟩ : ∃ KB, KB = w.heap.size := ⟨_, rfl⟩; have HA : Hid (Below w.heap.size w wA ∧ KeyC wA KB 3 k1 k2 k3 k4) := (Lib.hid (by rw [← hA, hKB]; exact ⟨(Below.refl _ _).alloc (Nat.le_refl _) _, KeyC.new w 3 k1 k2 k3 k4 _⟩)); rw [← hKB]; clear hA hKB; have q0 := HA.out.2.c0; go_upto_region 11 with fail; have HSK : Hid (∀ W, Below wA.heap.size wA W → (World.cell? W ⟨s, 0, none⟩ = some (.pointer (some ⟨m, 0, none⟩)) ∧ World.cell? W ⟨m, 0, none⟩ = some (.pointer (some ⟨S, 0, none⟩)) ∧ (World.cell? W ⟨KB, 0, none⟩ = some (.int .i64 3) ∧ World.cell? W ⟨KB, 1, none⟩ = some (.int .i64 k1) ∧ World.cell? W ⟨KB, 2, none⟩ = some (.int .i64 k2) ∧ World.cell? W ⟨KB, 3, none⟩ = some (.int .i64 k3) ∧ World.cell? W ⟨KB, 4, none⟩ = some (.int .u32 k4)))) := (Lib.hid (fun W hW => ⟨((HA.out.1.trans (hW.mono HA.out.1.size)).cell (p := ⟨s, 0, none⟩) HL.out.1).trans HL.out.2.2.1, ((HA.out.1.trans (hW.mono HA.out.1.size)).cell (p := ⟨m, 0, none⟩) HL.out.2.1).trans HL.out.2.2.2, ofive (HA.out.2.below hW)⟩)); obtain ⟨wD, hwD⟩ : ∃ wD, wD = wA.drew := ⟨_, rfl⟩; have HBd : Hid (Below wA.heap.size wA wD) := (Lib.hid (by rw [hwD]; exact (Below.refl _ _).drew)); refine wp_region_noPanic ?_; refine wp_region_held_drew (S := fun W => (World.cell? W ⟨s, 0, none⟩ = some (.pointer (some ⟨m, 0, none⟩)) ∧ World.cell? W ⟨m, 0, none⟩ = some (.pointer (some ⟨S, 0, none⟩)) ∧ (World.cell? W ⟨KB, 0, none⟩ = some (.int .i64 3) ∧ World.cell? W ⟨KB, 1, none⟩ = some (.int .i64 k1) ∧ World.cell? W ⟨KB, 2, none⟩ = some (.int .i64 k2) ∧ World.cell? W ⟨KB, 3, none⟩ = some (.int .i64 k3) ∧ World.cell? W ⟨KB, 4, none⟩ = some (.int .u32 k4)))) (by kernel_rfl) (by rw [← hwD]; exact HSK.out _ HBd.out) (fun hHeld => ?_); rw [← hwD] at hHeld ⊢; clear hwD; refine wpAnyH_take (i := 0) (v := ?_) (by rfl) (by kernel_rfl) (by kernel_rfl) (by kernel_rfl) (fun _ _ _ h => h) (Or.inl ⟨by kernel_rfl, ?_⟩) (by assumption) ?_; rotate_left 1; (focus (intro w hSw; (try dsimp only at hSw); simp only [List.getElem_toArray, List.getElem_cons_succ, List.getElem_cons_zero]; all_goals go_simp; all_goals (try with_reducible rfl))); (try simp only [Act.put, List.getElem_toArray, List.getElem_cons_succ, List.getElem_cons_zero, List.setIfInBounds_toArray, List.set_cons_zero, List.set_cons_succ]); refine wpAnyH_take (i := 1) (v := ?_) (by rfl) (by kernel_rfl) (by kernel_rfl) (by kernel_rfl) (fun _ _ _ h => h) (Or.inl ⟨by kernel_rfl, ?_⟩) (by assumption) ?_; rotate_left 1; (focus (intro w hSw; (try dsimp only at hSw); simp only [List.getElem_toArray, List.getElem_cons_succ, List.getElem_cons_zero]; all_goals go_simp; all_goals (try with_reducible rfl))); (try simp only [Act.put, List.getElem_toArray, List.getElem_cons_succ, List.getElem_cons_zero, List.setIfInBounds_toArray, List.set_cons_zero, List.set_cons_succ]); refine wpAnyH_take (i := 2) (v := ?_) (by rfl) (by kernel_rfl) (by kernel_rfl) (by kernel_rfl) (fun _ _ _ h => h) (Or.inl ⟨by kernel_rfl, ?_⟩) (by assumption) ?_; rotate_left 1; (focus (intro w hSw; (try dsimp only at hSw); simp only [List.getElem_toArray, List.getElem_cons_succ, List.getElem_cons_zero]; all_goals go_simp; all_goals (try with_reducible rfl))); (try simp only [Act.put, List.getElem_toArray, List.getElem_cons_succ, List.getElem_cons_zero, List.setIfInBounds_toArray, List.set_cons_zero, List.set_cons_succ]); refine wpAnyH_take (i := 3) (v := ?_) (by rfl) (by kernel_rfl) (by kernel_rfl) (by kernel_rfl) (fun _ _ _ h => h) (Or.inl ⟨by kernel_rfl, ?_⟩) (by assumption) ?_; rotate_left 1; (focus (intro w hSw; (try dsimp only at hSw); simp only [List.getElem_toArray, List.getElem_cons_succ, List.getElem_cons_zero]; all_goals go_simp; all_goals (try with_reducible rfl))); (try simp only [Act.put, List.getElem_toArray, List.getElem_cons_succ, List.getElem_cons_zero, List.setIfInBounds_toArray, List.set_cons_zero, List.set_cons_succ]); refine wpAnyH_take (i := 4) (v := ?_) (by rfl) (by kernel_rfl) (by kernel_rfl) (by kernel_rfl) (fun _ _ _ h => h) (Or.inl ⟨by kernel_rfl, ?_⟩) (by assumption) ?_; rotate_left 1; (focus (intro w hSw; (try dsimp only at hSw); simp only [List.getElem_toArray, List.getElem_cons_succ, List.getElem_cons_zero]; all_goals go_simp; all_goals (try with_reducible rfl))); (try simp only [Act.put, List.getElem_toArray, List.getElem_cons_succ, List.getElem_cons_zero, List.setIfInBounds_toArray, List.set_cons_zero, List.set_cons_succ]); refine wpAnyH_take (i := 5) (v := ?_) (by rfl) (by kernel_rfl) (by kernel_rfl) (by kernel_rfl) (fun _ _ _ h => h) (Or.inl ⟨by kernel_rfl, ?_⟩) (by assumption) ?_; rotate_left 1; (focus (intro w hSw; (try dsimp only at hSw); simp only [List.getElem_toArray, List.getElem_cons_succ, List.getElem_cons_zero]; all_goals go_simp; all_goals (try with_reducible rfl))); (try simp only [Act.put, List.getElem_toArray, List.getElem_cons_succ, List.getElem_cons_zero, List.setIfInBounds_toArray, List.set_cons_zero, List.set_cons_succ]); refine wpAnyH_take (i := 6) (v := ?_) (by rfl) (by kernel_rfl) (by kernel_rfl) (by kernel_rfl) (fun _ _ _ h => h) (Or.inl ⟨by kernel_rfl, ?_⟩) (by assumption) ?_; rotate_left 1; (focus (intro w hSw; (try dsimp only at hSw); simp only [List.getElem_toArray, List.getElem_cons_succ, List.getElem_cons_zero]; all_goals go_simp; all_goals (try with_reducible rfl))); (try simp only [Act.put, List.getElem_toArray, List.getElem_cons_succ, List.getElem_cons_zero, List.setIfInBounds_toArray, List.set_cons_zero, List.set_cons_succ]); refine wpAnyH_take (i := 7) (v := ?_) (by rfl) (by kernel_rfl) (by kernel_rfl) (by kernel_rfl) (fun _ _ _ h => h) (Or.inl ⟨by kernel_rfl, ?_⟩) (by assumption) ?_; rotate_left 1; (focus (intro w hSw; (try dsimp only at hSw); simp only [List.getElem_toArray, List.getElem_cons_succ, List.getElem_cons_zero]; all_goals go_simp; all_goals (try with_reducible rfl))); (try simp only [Act.put, List.getElem_toArray, List.getElem_cons_succ, List.getElem_cons_zero, List.setIfInBounds_toArray, List.set_cons_zero, List.set_cons_succ]); refine wpAnyH_ready (rs := [8]) (by kernel_rfl) (by simp) ?_; refine AllReadyH.cons (by rfl) (fun K hK => ?_) AllReadyH.nil; rw [if_pos (by kernel_rfl)]; simp only [List.getElem_toArray, List.getElem_cons_succ, List.getElem_cons_zero]; go_wp2_with (first | (go_at_call 66; (with_reducible refine (slive_at 3 k1 k2 k3 k4 r hr _ (H.out.below (HA.out.1.trans (HBd.out.mono HA.out.1.size)))).mono ?_); rintro e w9 ⟨rfl, hb⟩; have HB9 := (Lib.hid (HBd.out.trans (hb.mono HBd.out.size))); clear hb)); refine hK.out _ _ (HSK.out _ HB9.out) (fun hHeld => ?_); clear hK K; (try simp only [Act.put, List.getElem_toArray, List.getElem_cons_succ, List.getElem_cons_zero, List.setIfInBounds_toArray, List.set_cons_zero, List.set_cons_succ]); refine wpAnyH_take (i := 9) (v := ?_) (by rfl) (by kernel_rfl) (by kernel_rfl) (by kernel_rfl) (fun _ _ _ h => h) (Or.inl ⟨by kernel_rfl, ?_⟩) (by assumption) ?_; rotate_left 1; (focus (intro w hSw; (try dsimp only at hSw); simp only [List.getElem_toArray, List.getElem_cons_succ, List.getElem_cons_zero]; all_goals go_simp; all_goals (try with_reducible rfl))); (try simp only [Act.put, List.getElem_toArray, List.getElem_cons_succ, List.getElem_cons_zero, List.setIfInBounds_toArray, List.set_cons_zero, List.set_cons_succ]); refine wpAnyH_done (by kernel_rfl) ?_ _; refine NoPanic.normal ?_; go_wp2_with fail; go_ret; exact ⟨rfl, HA.out.1.trans (HB9.out.mono HA.out.1.size)⟩
/-- A system of banks, nodes, pages, domains; no meter, no factory. -/
structure SJ (w0 w : World) (L : BLoc) (X : SLoc) (D : BSt) : Prop where
  k : BW w0 w L D
  t : MtAt w X.tB X.tP X.tp X.tR X.tG X.tn X.tn (fun _ => false) (fun _ => 0) (fun _ => 0) (fun _ => 0)
  f : PlAt 127 31 w X.fB X.fP X.fp X.fR X.fG X.fn X.fn (fun _ => false) (fun _ => 0) (fun _ b => zk b)
  b : SyB w X.s L.mb L.dP X.tP L.P X.fP X.q 0
  lo : L.T ≤ X.s ∧ L.T ≤ X.q ∧ X.s ≠ X.q ∧ L.T ≤ X.fB ∧ w0.heap.size ≤ X.tB ∧ L.dB ≤ X.tB ∧ L.dR < X.tB ∧ L.dG < X.tB ∧ X.tP < L.bB ∧ X.tp < L.bB ∧ X.tR < L.bB ∧ X.tG < L.bB
section
variable {w0 w w' : World} {L : BLoc} {X : SLoc} {D D' : BSt}
theorem SysNew.sj (h : SysNew w0 w L X) : SJ w0 w L X st0 := ⟨h.k, h.t, h.f, h.b, h.lo⟩
theorem PlAt.same {T : TypeId} {s base P p B G n c : Nat} {th : Nat → Bool} {vr : Nat → Int} {W : Nat → Nat → Value} (h : PlAt T s w base P p B G n c th vr W) (hs : w.heap.size ≤ w'.heap.size) (h1 : w'.heap[P]? = w.heap[P]?) (h2 : w'.heap[p]? = w.heap[p]?) (h3 : w'.heap[B]? = w.heap[B]?) (h4 : w'.heap[G]? = w.heap[G]?) : PlAt T s w' base P p B G n c th vr W :=
  ⟨Nat.lt_of_lt_of_le h.pl hs, h.pb, (World.cell?_of_block (a := ⟨P, 0, none⟩) h1).trans h.f0, (World.cell?_of_block (a := ⟨P, 1, none⟩) h1).trans h.f1, h.ar.same2 hs h2 h3, own_same h.row h4, h.n1, h.n2, h.n3, h.n4⟩
theorem MtAt.same {base P p B G n c : Nat} {th : Nat → Bool} {vr pr tk : Nat → Int} (h : MtAt w base P p B G n c th vr pr tk) (hs : w.heap.size ≤ w'.heap.size) (h1 : w'.heap[P]? = w.heap[P]?) (h2 : w'.heap[p]? = w.heap[p]?) (h3 : w'.heap[B]? = w.heap[B]?) (h4 : w'.heap[G]? = w.heap[G]?) : MtAt w' base P p B G n c th vr pr tk :=
  ⟨Nat.lt_of_lt_of_le h.pl hs, h.pb, (World.cell?_of_block (a := ⟨P, 0, none⟩) h1).trans h.f0, (World.cell?_of_block (a := ⟨P, 1, none⟩) h1).trans h.f1, h.ar.same2 hs h2 h3, own_same h.row h4, h.n1, h.n2, h.n3, h.n4⟩
theorem MtAt.low2 {base P p B G n c : Nat} {th : Nat → Bool} {vr pr tk : Nat → Int} (h : MtAt w base P p B G n c th vr pr tk) : base ≤ P ∧ base ≤ p ∧ base ≤ B ∧ base ≤ G ∧ P < w.heap.size ∧ p < w.heap.size ∧ B < w.heap.size ∧ G < w.heap.size := ⟨h.pb, h.ar.pb, h.ar.lt.1, (h.row.lt G rfl).1, h.pl, h.ar.pl, h.ar.lt.2, (h.row.lt G rfl).2⟩
theorem SJ.below (h : SJ w0 w L X D) (hb : Below w.heap.size w w') : SJ w0 w' L X D :=
  ⟨h.k.below hb, h.t.below hb, h.f.same hb.size (hb.block _ h.f.pl) (hb.block _ h.f.ar.pl) (hb.block _ h.f.ar.lt.2) (hb.block _ (h.f.row.lt _ rfl).2), h.b.below hb, h.lo⟩
theorem SJ.step (h : SJ w0 w L X D) (hk : BW w0 w' L D') (hu : UpM L w w') : SJ w0 w' L X D' := by
  have ht := h.t.low2
  have hl := h.lo
  have hz := hu.up.1
  have hT := h.k.tt.1
  have win : ∀ k, X.tB ≤ k → k < L.bB → k < w.heap.size → w'.heap[k]? = w.heap[k]? := fun k h1 h2 h3 => hu.win k (by omega) h2 (by omega) (by omega) h3
  have f1 := h.f.pb
  have f2 := h.f.ar.pb
  have f3 := h.f.ar.lt
  have f4 := h.f.row.lt X.fG rfl
  exact ⟨hk, h.t.same hz (win _ ht.1 (by omega) ht.2.2.2.2.1) (win _ ht.2.1 (by omega) ht.2.2.2.2.2.1) (win _ ht.2.2.1 (by omega) ht.2.2.2.2.2.2.1) (win _ ht.2.2.2.1 (by omega) ht.2.2.2.2.2.2.2), h.f.same hz (hu.up.2 _ (by omega) h.f.pl) (hu.up.2 _ (by omega) h.f.ar.pl) (hu.up.2 _ (by omega) f3.2) (hu.up.2 _ (by omega) f4.2), h.b.same hz (hu.up.2 _ hl.1 h.b.lt), hl⟩
/-- Of any right key it is told whether it is live: the same in every later world. -/
theorem live_ex (h : SJ w0 w L X D) (hD : D.dt = fun _ => false) (k0 k1 k2 k3 k4 : Int) (hk : codeOf k0 k1 k2 k3 k4 = 0) (g4 : 0 ≤ k4) : ∃ r : Bool, ∀ W, Below w.heap.size w W → Calls Tryz.prog 21 #[.pointer (some ⟨X.s, 0, none⟩), (Value.agg #[.int .i64 k0, .int .i64 k1, .int .i64 k2, .int .i64 k3, .int .u32 k4])] W fun e w' => e = .returned (.bool r) ∧ Below W.heap.size W w' := by
  have h14 : ¬ (k0 < 0 ∨ 14 < k0) := fun hn => by
    rw [codeOf_102 _ _ _ _ _ hn] at hk
    exact absurd hk (by decide)
  have hin : InB k0 k1 k2 k3 k4 := by
    by_cases hi : InB k0 k1 k2 k3 k4
    · exact hi
    · rw [codeOf_103 _ _ _ _ _ h14 hi] at hk
      exact absurd hk (by decide)
  by_cases hp : k0 = 0 ∨ k0 = 1 ∨ k0 = 11 ∨ k0 = 12 ∨ k0 = 13 ∨ k0 = 14
  · exact ⟨true, fun W hW => slive_plain X.s k0 k1 k2 k3 k4 hp W⟩
  by_cases hm : k0 = 2 ∨ k0 = 3
  · exact ⟨_, fun W hW => slive_mem X.s L.mb k0 k1 k2 k3 k4 hm _ (Lib.hid rfl) W (h.below hW).b.c0 (h.below hW).k.mm.m0 (h.below hW).k.mm.sv.st⟩
  obtain rfl | rfl | rfl | rfl | rfl | rfl | rfl : k0 = 4 ∨ k0 = 5 ∨ k0 = 6 ∨ k0 = 7 ∨ k0 = 8 ∨ k0 = 9 ∨ k0 = 10 := by omega
  · exact ⟨_, fun W hW => slive_dom k1 k2 k3 k4 L.dp L.dR L.dn L.dc L.dB D.dt D.dv _ (Lib.hid rfl) W (h.below hW).b (h.below hW).k.d.pl.f0 (h.below hW).k.d.pl.ar⟩
  · exact ⟨_, fun W hW => slive_start k1 k2 k3 k4 L.dp L.dR L.dn L.dc L.dB D.dt D.dv _ (Lib.hid rfl) W (h.below hW).b (h.below hW).k.d.pl.f0 (h.below hW).k.d.pl.ar⟩
  · have hb := hin
    unfold InB at hb
    have h41 : k4 ≤ 536870911 := hb.2.2.2.2.2.2
    exact ⟨false, fun W hW => slive_resume k1 k2 k3 k4 false W (fun V hV => swaits_dead k1 k2 k3 k4 L.dp zd (Lib.hid (fun j _ => zd_one j)) g4 h41 V ((h.below hW).below hV).b ((h.below hW).below hV).k.d.pl.f0 (fun U hU => dget_dead k1 k1.toNat (Lib.hid (by omega)) (Lib.hid (by rw [hD])) U (((h.below hW).below hV).below hU).k.d))⟩
  · exact ⟨_, fun W hW => slive_meter k1 k2 k3 k4 X.tp X.tR X.tn X.tn X.tB (fun _ => false) (fun _ => 0) _ (Lib.hid rfl) W (h.below hW).b (h.below hW).t.f0 (h.below hW).t.ar⟩
  · exact ⟨_, fun W hW => slive_bank k1 k2 k3 k4 L.p L.B L.n L.c L.bB (thN D.nb) (fun _ => 0) _ (Lib.hid rfl) W (h.below hW).b (h.below hW).k.kk.f0 (h.below hW).k.kk.ar⟩
  · exact ⟨false, fun W hW => slive_maker_no k1 k2 k3 k4 X.fp X.fR X.fn X.fn X.fB (fun _ => false) (fun _ => 0) (Lib.hid (by simp [thereB])) W (h.below hW).b (h.below hW).f.f0 (h.below hW).f.ar⟩
  · exact ⟨false, fun W hW => slive_builder_no k1 k2 k3 k4 X.fp X.fR X.fn X.fn X.fB (fun _ => false) (fun _ => 0) (Lib.hid (by simp [thereB])) W (h.below hW).b (h.below hW).f.f0 (h.below hW).f.ar⟩
end
end Go.Proofs.YtncopdhhchmpeaaGreatDoor
namespace Go.Proofs.YtncopdhhchmpeaaGreatDoor
open Go.ChangeShapes Go.WideShapes Go.ChangeAt Go.RowKit
set_option linter.unusedVariables false
set_option linter.unusedSimpArgs false
theorem answer_none (s : Nat) (vs vr : Value) (W : World) (hE : ErrsAt vs vr W) : Calls Tryz.prog 32 #[.pointer (some ⟨s, 0, none⟩), (Value.agg #[.int .i64 0, .int .i64 0, .int .i64 0, .int .i64 0, .int .u32 0]), .agg #[.int .u32 0, .int .u32 0, .int .u32 0, .int .u32 0, .int .i64 0, .int .i64 0, .int .i64 0, .int .i64 0, .int .u32 0, .int .i64 0, .int .i64 0, .int .i64 0, .int .i64 0, .int .u32 0, .int .i64 0, .int .i64 0, .int .i64 0, .int .i64 0, .int .u32 0]] W fun e w' => e = .returned (.tuple #[(Value.agg #[.int .u32 1, .int .u32 0, .int .u32 0, .int .u32 0, .int .i64 0, .int .i64 0, .int .i64 0, .int .i64 0, .int .u32 0, .int .i64 0, .int .i64 0, .int .i64 0, .int .i64 0, .int .u32 0, .int .i64 0, .int .i64 0, .int .i64 0, .int .i64 0, .int .u32 0]), .bool true]) ∧ Below W.heap.size W w' := by
  refine (oanswer (Q := fun w' => Below W.heap.size W w') (N := W.heap.size) (nt := [.int .u32 1, .int .u32 0, .int .u32 0, .int .u32 0, .int .i64 0, .int .i64 0, .int .i64 0, .int .i64 0, .int .u32 0, .int .i64 0, .int .i64 0, .int .i64 0, .int .i64 0, .int .u32 0, .int .i64 0, .int .i64 0, .int .i64 0, .int .i64 0, .int .u32 0]) rfl (by simp [Value.oneCell']) s 0 0 0 0 0 0 0 0 0 0 0 0 0 0 0 0 0 0 0 0 0 0 0 0 0 0 0 0 0 0 0 0 0 0 0 0 0 0 0 0 0 0 0 0 (by decide) (by decide) W (Nat.le_refl _) (fun w1 w2 h1 h2 => h1.trans h2) ?_ ?_ ?_ ?_ ?_).mono (fun e w' h9 => ⟨h9.1, h9.2.1⟩)
  · exact fun V hV => oseen_void s vs vr V (hE.below hV)
  · exact fun V hV => oseen_void s vs vr V (hE.below hV)
  · exact fun V hV => oseen_void s vs vr V (hE.below hV)
  · exact fun V hV => oseen_void s vs vr V (hE.below hV)
  · exact fun V hV => (oanswer_void (Lib.hid (c25_call s 0 0 0 0 0 0 0 0 0 0 0 0 0 0 0 0 0 0 0 0 0 0 0 0)) V).mono (fun e w' h9 => ⟨h9.1, hV.trans (h9.2.mono hV.size), UpT.below h9.2⟩)
/-- A note as a list of cells. -/
structure NtC (nt : List Value) (o a : Int) : Prop where
  len : nt.length = 19
  one : ∀ v, v ∈ nt → v.oneCell' = true
  c0 : nt[0]? = some (.int .u32 o)
  c1 : nt[1]? = some (.int .u32 a)
theorem answer_none2 : ∃ nt, NtC nt 1 0 ∧ ∀ (s : Nat) (vs vr : Value) (W : World), ErrsAt vs vr W → Calls Tryz.prog 32 #[.pointer (some ⟨s, 0, none⟩), (Value.agg #[.int .i64 0, .int .i64 0, .int .i64 0, .int .i64 0, .int .u32 0]), .agg #[.int .u32 0, .int .u32 0, .int .u32 0, .int .u32 0, .int .i64 0, .int .i64 0, .int .i64 0, .int .i64 0, .int .u32 0, .int .i64 0, .int .i64 0, .int .i64 0, .int .i64 0, .int .u32 0, .int .i64 0, .int .i64 0, .int .i64 0, .int .i64 0, .int .u32 0]] W fun e w' => e = .returned (.tuple #[.agg nt.toArray, .bool true]) ∧ Below W.heap.size W w' :=
  ⟨[.int .u32 1, .int .u32 0, .int .u32 0, .int .u32 0, .int .i64 0, .int .i64 0, .int .i64 0, .int .i64 0, .int .u32 0, .int .i64 0, .int .i64 0, .int .i64 0, .int .i64 0, .int .u32 0, .int .i64 0, .int .i64 0, .int .i64 0, .int .i64 0, .int .u32 0], ⟨rfl, by simp [Value.oneCell'], rfl, rfl⟩, answer_none⟩
set_option maxRecDepth 100000 in
set_option maxHeartbeats 2000000 in
theorem first22_is (vs vr : Value) (w : World) (hE : ErrsAt vs vr w) : Calls Tryz.prog 27 #[] w fun e w' => e = .returned (.bool true) ∧ Below w.heap.size w w' := by
  have HE := Lib.hid hE
  clear hE
  obtain ⟨nt, hN, hAn⟩ := answer_none2
  have HN := Lib.hid hN
  have HAn := Lib.hid hAn
  have hsz : nt.toArray.size = 19 := by simp [hN.len]
  clear hN hAn
  go_enter Tryz.func27, Tryz.ntmps27
  go_upto_region 4 with (first
    | (go_at_call 11; (with_reducible refine (script_ok _).mono ?_); rintro e w1 ⟨L, X, x, rfl, hs, -, hb⟩; have HB1 := Lib.hid hb; clear hs hb))
  have HA1 := Lib.hid (HAn.out X.s vs vr w1 (HE.out.below HB1.out))
  go_upto_region 5 with (first
    | (go_at_call 32; (with_reducible refine HA1.out.mono ?_); rintro e w2 ⟨rfl, hb⟩; have HB2 := Lib.hid (HB1.out.trans (hb.mono HB1.out.size)); clear hb)
    | (refine wpList_store_mid (by rfl) _ _ _ (by rfl) w2.heap.size 0 nt.toArray (by rfl) (by rfl) (by rw [hsz]; exact nthere_new _ _ 19 (by rfl) _) (by rw [hsz]; exact infoNote) (all_one HN.out.one) ?_))
  generalize hA : World.setCells _ w2.heap.size 0 _ = w3
  obtain ⟨Y, hY⟩ : ∃ Y, Y = w2.heap.size := ⟨_, rfl⟩
  have H3 : Hid (Below w.heap.size w w3 ∧ w3.rangeAt Y 0 nt) := Lib.hid (by rw [← hA, hY]; exact ⟨nbelow_cells (HB2.out.alloc HB2.out.size _) HB2.out.size _ _, World.rangeAt_setCells_same _ w2.heap.size 0 nt (by rw [HN.out.len]; exact nthere_new _ _ 19 (by rfl) _)⟩)
  rw [← hY]
  clear hA hY
  have q0 := CallC.cell H3.out.2 0 _ HN.out.c0
  go_wp2_with fail
  go_ret
  exact ⟨rfl, H3.out.1⟩
end Go.Proofs.YtncopdhhchmpeaaGreatDoor
namespace Go.Proofs.YtncopdhhchmpeaaGreatDoor
open Go.ChangeShapes Go.WideShapes Go.ChangeAt Go.RowKit
set_option linter.unusedVariables false
set_option linter.unusedSimpArgs false
section
variable {cs nt : List Value} {s N : Nat} {k1 k2 k3 k4 o x : Int} {Q : World → Prop}
set_option maxRecDepth 100000 in
set_option maxHeartbeats 2000000 in
theorem oanswer_judge (hnl : nt.length = 19) (hn1 : ∀ v, v ∈ nt → v.oneCell' = true) (hc : Hid (CallC cs s 12 k1 k2 k3 k4 o x)) (w : World) (hN : N ≤ w.heap.size) (hQ : ∀ w1 w2, Q w1 → Below N w1 w2 → Q w2)
    (hm : ∀ W, Below w.heap.size w W → Calls Tryz.prog 121 #[(.agg cs.toArray)] W fun e w' => e = .returned (.agg nt.toArray) ∧ Q w' ∧ UpT N W w') :
    Calls Tryz.prog 81 #[(.agg cs.toArray)] w fun e w' => e = .returned (.agg nt.toArray) ∧ Q w' ∧ UpT N w w' := by
  have HQ := Lib.hid hQ
  have HM := Lib.hid hm
  have hsz : nt.toArray.size = 19 := by simp [hnl]
  clear hQ hm
  go_enter Tryz.func81, Tryz.ntmps81; go_upto_region 1 with fail; generalize hA : World.alloc w _ = wK; obtain ⟨C, hC⟩ : ∃ C, C = w.heap.size := ⟨_, rfl⟩; have HK : Hid (Below w.heap.size w wK ∧ wK.rangeAt C 0 cs ∧ wK.heap.size = C + 1) := Lib.hid (by rw [← hA, hC]; exact ⟨(Below.refl _ _).alloc (Nat.le_refl _) _, cbox _ _ _, by simp⟩); have HCl : Hid (w.heap.size ≤ C) := Lib.hid (by rw [hC]; exact Nat.le_refl _); rw [← hC]; clear hA hC; generalize hA : World.alloc wK _ = wA; obtain ⟨R, hR⟩ : ∃ R, R = C + 1 := ⟨_, rfl⟩; have HA : Hid (Below w.heap.size w wA ∧ wA.rangeAt C 0 cs ∧ World.there wA R 0 19 ∧ C < R ∧ R < wA.heap.size) := Lib.hid (by rw [← hA, hR, ← HK.out.2.2]; exact ⟨HK.out.1.alloc HK.out.1.size _, range_below HK.out.2.1 ((Below.refl _ _).alloc (Nat.le_refl _) _) (by have := HK.out.2.2; omega), nthere_new _ _ 19 (by rfl) _, by have := HK.out.2.2; omega, by simp⟩); rw [← hR]; clear hA hR
  have q1 := CallC.cell HA.out.2.1 1 _ hc.out.c1
  go_upto_region 21 with fail
  go_wp2_with (first
    | (refine wpList_load_mid (by rfl) _ _ (by rfl) C 0 (by rfl) cs _ HA.out.2.1 Tryz.underlying129 rfl (by rw [hc.out.len]; exact infoCall) ?_)
    | (go_at_call 121; (with_reducible refine (HM.out _ HA.out.1).mono ?_); rintro e w1 ⟨rfl, hq, hu⟩; have H1 := Lib.hid hq; have HU1 := Lib.hid hu; have HT1 : Hid (World.there w1 R 0 19) := Lib.hid (nthere_same HA.out.2.2.1 (hu.2 R (by have := HA.out.2.2.2.1; have := HCl.out; omega) HA.out.2.2.2.2)); clear hq hu)
    | (refine wpList_store_mid (by rfl) _ _ _ (by rfl) R 0 nt.toArray (by rfl) (by rfl) (by rw [hsz]; exact HT1.out) (by rw [hsz]; exact infoNote) (all_one hn1) ?_))
  have hRn : w.heap.size ≤ R := by have := HA.out.2.2.2.1; have := HCl.out; omega
  have HS : Hid (Below w.heap.size w1 (w1.setCells R 0 nt.toArray.toList) ∧ (w1.setCells R 0 nt.toArray.toList).rangeAt R 0 nt) := Lib.hid ⟨nbelow_cells (Below.refl _ _) hRn _ _, World.rangeAt_setCells_same w1 R 0 nt (by rw [hnl]; exact HT1.out)⟩
  have hld := nload hnl HS.out.2
  refine bodyPost_ret (v := (.agg nt.toArray)) (by simp [results, Tryz.results81, Act.put, asAddr, hld]) rfl ⟨rfl, HQ.out _ _ H1.out (HS.out.1.mono hN), ((UpT.below HA.out.1).trans HU1.out).low HS.out.1 (Nat.le_refl _)⟩
end
/-- What is told of a right key by the program and by the document's reckoning. -/
structure KF (k0 k1 k2 k3 k4 : Int) (s u : Bool) (r0 r1 r2 r3 r4 : Int) : Prop where
  pS : ∀ W : World, Calls Tryz.prog 164 #[(Value.agg #[.int .i64 k0, .int .i64 k1, .int .i64 k2, .int .i64 k3, .int .u32 k4])] W fun e w' => e = .returned (.bool s) ∧ Below W.heap.size W w'
  rS : ∀ W : World, Calls Tryz.prog 40 #[(Value.agg #[.int .i64 k0, .int .i64 k1, .int .i64 k2, .int .i64 k3, .int .u32 k4])] W fun e w' => e = .returned (.bool s) ∧ Below W.heap.size W w'
  pU : ∀ W : World, Calls Tryz.prog 165 #[(Value.agg #[.int .i64 k0, .int .i64 k1, .int .i64 k2, .int .i64 k3, .int .u32 k4])] W fun e w' => e = .returned (.bool u) ∧ Below W.heap.size W w'
  rU : ∀ W : World, Calls Tryz.prog 41 #[(Value.agg #[.int .i64 k0, .int .i64 k1, .int .i64 k2, .int .i64 k3, .int .u32 k4])] W fun e w' => e = .returned (.bool u) ∧ Below W.heap.size W w'
  pW : ∀ W : World, Calls Tryz.prog 166 #[(Value.agg #[.int .i64 k0, .int .i64 k1, .int .i64 k2, .int .i64 k3, .int .u32 k4])] W fun e w' => e = .returned (Value.agg #[.int .i64 r0, .int .i64 r1, .int .i64 r2, .int .i64 r3, .int .u32 r4]) ∧ Below W.heap.size W w'
  rW : ∀ W : World, Calls Tryz.prog 36 #[(Value.agg #[.int .i64 k0, .int .i64 k1, .int .i64 k2, .int .i64 k3, .int .u32 k4])] W fun e w' => e = .returned (Value.agg #[.int .i64 r0, .int .i64 r1, .int .i64 r2, .int .i64 r3, .int .u32 r4]) ∧ Below W.heap.size W w'
theorem kf_of (k0 k1 k2 k3 k4 : Int) (r0 r1 r2 r3 r4 : Int) (s : Bool) (hk : codeOf k0 k1 k2 k3 k4 = 0) (hW : Hid (Wk [k0, k1, k2, k3, k4] [r0, r1, r2, r3, r4]))
    (cS : ∀ W : World, Calls Tryz.prog 164 #[(Value.agg #[.int .i64 k0, .int .i64 k1, .int .i64 k2, .int .i64 k3, .int .u32 k4])] W fun e w' => e = .returned (.bool s) ∧ Below W.heap.size W w')
    (hs : sameB r0 r1 r2 r3 r4 k0 k1 k2 k3 k4 = s) : ∃ u, KF k0 k1 k2 k3 k4 s u r0 r1 r2 r3 r4 := by
  have h8 := rights_in _ _ _ _ _ hk
  by_cases hm : k0 = 2 ∨ k0 = 3
  · exact ⟨_, cS, fun W => rsensory_any k0 k1 k2 k3 k4 r0 r1 r2 r3 r4 s h8 hW (Lib.hid hs) W, fun W => writes_mem k0 k1 k2 k3 k4 hm W, fun W => rwrites_mem k0 k1 k2 k3 k4 hm W, fun W => weaken_any k0 k1 k2 k3 k4 r0 r1 r2 r3 r4 hW W, fun W => rweaken_any k0 k1 k2 k3 k4 r0 r1 r2 r3 r4 h8 hW W⟩
  · exact ⟨_, cS, fun W => rsensory_any k0 k1 k2 k3 k4 r0 r1 r2 r3 r4 s h8 hW (Lib.hid hs) W, fun W => writes_no k0 k1 k2 k3 k4 (by omega) (by omega) W, fun W => rwrites_no k0 k1 k2 k3 k4 (by omega) (by omega) W, fun W => weaken_any k0 k1 k2 k3 k4 r0 r1 r2 r3 r4 hW W, fun W => rweaken_any k0 k1 k2 k3 k4 r0 r1 r2 r3 r4 h8 hW W⟩
theorem key_facts (k0 k1 k2 k3 k4 : Int) (hk : codeOf k0 k1 k2 k3 k4 = 0) : ∃ (s u : Bool) (r0 r1 r2 r3 r4 : Int), KF k0 k1 k2 k3 k4 s u r0 r1 r2 r3 r4 := by
  by_cases hmem : k0 = 2 ∨ k0 = 3
  · have hW : Wk [k0, k1, k2, k3, k4] [k0, k1, k2, bits BinOp.or IntKind.i64 k3 5, k4] := .inl ⟨hmem, rfl⟩
    by_cases h3 : bits BinOp.or IntKind.i64 k3 5 = k3
    · rw [h3] at hW
      obtain ⟨u, h⟩ := kf_of k0 k1 k2 k3 k4 k0 k1 k2 k3 k4 true hk (Lib.hid hW) (fun W => sensory_yes k0 k1 k2 k3 k4 (Lib.hid hW) W) (by simp [sameB])
      exact ⟨_, _, _, _, _, _, _, h⟩
    · obtain ⟨u, h⟩ := kf_of k0 k1 k2 k3 k4 k0 k1 k2 _ k4 false hk (Lib.hid hW) (fun W => sensory_no k0 k1 k2 k3 k4 _ _ _ _ _ (Lib.hid hW) (.inr ⟨rfl, rfl, rfl, by simp; omega⟩) W) (by simp [sameB, h3])
      exact ⟨_, _, _, _, _, _, _, h⟩
  · by_cases hs : k0 = 0 ∨ k0 = 1 ∨ k0 = 12 ∨ k0 = 14
    · have hW : Wk [k0, k1, k2, k3, k4] [k0, k1, k2, k3, k4] := .inr (.inl ⟨hs, rfl⟩)
      obtain ⟨u, h⟩ := kf_of k0 k1 k2 k3 k4 k0 k1 k2 k3 k4 true hk (Lib.hid hW) (fun W => sensory_yes k0 k1 k2 k3 k4 (Lib.hid hW) W) (by simp [sameB])
      exact ⟨_, _, _, _, _, _, _, h⟩
    · have hW : Wk [k0, k1, k2, k3, k4] [0, 0, 0, 0, 0] := .inr (.inr ⟨by simp; omega, rfl⟩)
      have hn : ¬ k0 = 0 := by omega
      have hn' : ¬ 0 = k0 := by omega
      obtain ⟨u, h⟩ := kf_of k0 k1 k2 k3 k4 0 0 0 0 0 false hk (Lib.hid hW) (fun W => sensory_no k0 k1 k2 k3 k4 _ _ _ _ _ (Lib.hid hW) (.inl (by simpa using hn)) W) (by simp [sameB, hn'])
      exact ⟨_, _, _, _, _, _, _, h⟩
section
variable {w0 w : World} {L : BLoc} {X : SLoc} {D : BSt}
theorem seen_ex (h : SJ w0 w L X D) (hD : D.dt = fun _ => false) (vs vr : Value) (hE : ErrsAt vs vr w) (k0 k1 k2 k3 k4 : Int) (hk : codeOf k0 k1 k2 k3 k4 = 0) (g4 : 0 ≤ k4) : ∃ x0 x1 x2 x3 x4 : Int, codeOf x0 x1 x2 x3 x4 = 0 ∧ (0 ≤ x0 ∧ x0 ≤ 14) ∧ ∀ W, Below w.heap.size w W → Calls Tryz.prog 23 #[.pointer (some ⟨X.s, 0, none⟩), (Value.agg #[.int .i64 k0, .int .i64 k1, .int .i64 k2, .int .i64 k3, .int .u32 k4])] W fun e w' => e = .returned (Value.agg #[.int .i64 x0, .int .i64 x1, .int .i64 x2, .int .i64 x3, .int .u32 x4]) ∧ Below W.heap.size W w' := by
  obtain ⟨r, hr⟩ := live_ex h hD k0 k1 k2 k3 k4 hk g4
  have hR := Lib.hid (right_of_code hk)
  cases r
  · exact ⟨0, 0, 0, 0, 0, by decide, by decide, fun W hW => oseen_dead k0 k1 k2 k3 k4 W (fun V hV => nvalid_ok k0 k1 k2 k3 k4 hR vs vr V (hE.below (hW.trans (hV.mono hW.size)))) (fun V hV => hr V (hW.trans (hV.mono hW.size)))⟩
  · have h14 : ¬ (k0 < 0 ∨ 14 < k0) := fun hn => by
      rw [codeOf_102 _ _ _ _ _ hn] at hk
      exact absurd hk (by decide)
    exact ⟨k0, k1, k2, k3, k4, hk, by omega, fun W hW => oseen_live k0 k1 k2 k3 k4 W (fun V hV => nvalid_ok k0 k1 k2 k3 k4 hR vs vr V (hE.below (hW.trans (hV.mono hW.size)))) (fun V hV => hr V (hW.trans (hV.mono hW.size)))⟩
theorem oseen_judge (s : Nat) (vs vr : Value) (W : World) (hE : ErrsAt vs vr W) : Calls Tryz.prog 23 #[.pointer (some ⟨s, 0, none⟩), (Value.agg #[.int .i64 12, .int .i64 0, .int .i64 0, .int .i64 0, .int .u32 0])] W fun e w' => e = .returned (Value.agg #[.int .i64 12, .int .i64 0, .int .i64 0, .int .i64 0, .int .u32 0]) ∧ Below W.heap.size W w' :=
  oseen_live 12 0 0 0 0 W (fun V hV => nvalid_ok 12 0 0 0 0 (Lib.hid (by decide)) vs vr V (hE.below hV)) (fun V hV => slive_plain s 12 0 0 0 0 (by decide) V)
/-- A judge, asked about two keys. -/
theorem ans_judge {nt : List Value} (hnl : nt.length = 19) (hn1 : ∀ v, v ∈ nt → v.oneCell' = true) (s : Nat) (o : Int) (m0 m1 m2 m3 m4 : Int) (n0 n1 n2 n3 n4 : Int) (x0 x1 x2 x3 x4 : Int) (y0 y1 y2 y3 y4 : Int) (vs vr : Value) (w W : World) (hW : Below w.heap.size w W) (hE : ErrsAt vs vr w)
    (hm : ∀ W, Below w.heap.size w W → Calls Tryz.prog 23 #[.pointer (some ⟨s, 0, none⟩), (Value.agg #[.int .i64 m0, .int .i64 m1, .int .i64 m2, .int .i64 m3, .int .u32 m4])] W fun e w' => e = .returned (Value.agg #[.int .i64 x0, .int .i64 x1, .int .i64 x2, .int .i64 x3, .int .u32 x4]) ∧ Below W.heap.size W w')
    (hn : ∀ W, Below w.heap.size w W → Calls Tryz.prog 23 #[.pointer (some ⟨s, 0, none⟩), (Value.agg #[.int .i64 n0, .int .i64 n1, .int .i64 n2, .int .i64 n3, .int .u32 n4])] W fun e w' => e = .returned (Value.agg #[.int .i64 y0, .int .i64 y1, .int .i64 y2, .int .i64 y3, .int .u32 y4]) ∧ Below W.heap.size W w')
    (hj : ∀ cs, Hid (CallJ cs s o x0 x1 x2 x3 x4 y0 y1 y2 y3 y4) → ∀ V, Calls Tryz.prog 121 #[(.agg cs.toArray)] V fun e w' => e = .returned (.agg nt.toArray) ∧ Below V.heap.size V w') :
    Calls Tryz.prog 32 #[.pointer (some ⟨s, 0, none⟩), (Value.agg #[.int .i64 12, .int .i64 0, .int .i64 0, .int .i64 0, .int .u32 0]), .agg #[.int .u32 o, .int .u32 0, .int .u32 0, .int .u32 0, .int .i64 m0, .int .i64 m1, .int .i64 m2, .int .i64 m3, .int .u32 m4, .int .i64 n0, .int .i64 n1, .int .i64 n2, .int .i64 n3, .int .u32 n4, .int .i64 0, .int .i64 0, .int .i64 0, .int .i64 0, .int .u32 0]] W fun e w' => e = .returned (.tuple #[.agg nt.toArray, .bool true]) ∧ Below W.heap.size W w' := by
  have hQ : ∀ w1 w2, Below W.heap.size W w1 → Below W.heap.size w1 w2 → Below W.heap.size W w2 := fun w1 w2 h1 h2 => h1.trans h2
  refine (oanswer (Q := fun w' => Below W.heap.size W w') (N := W.heap.size) hnl hn1 s 12 0 0 0 0 12 0 0 0 0 o 0 0 0 m0 m1 m2 m3 m4 n0 n1 n2 n3 n4 0 0 0 0 0 x0 x1 x2 x3 x4 y0 y1 y2 y3 y4 0 0 0 0 0 (by decide) (by decide) W (Nat.le_refl _) hQ ?_ ?_ ?_ ?_ ?_).mono (fun e w' h9 => ⟨h9.1, h9.2.1⟩)
  · exact fun V hV => oseen_judge s vs vr V (hE.below (hW.trans (hV.mono hW.size)))
  · exact fun V hV => hm V (hW.trans (hV.mono hW.size))
  · exact fun V hV => hn V (hW.trans (hV.mono hW.size))
  · exact fun V hV => oseen_void s vs vr V (hE.below (hW.trans (hV.mono hW.size)))
  · intro V hV
    refine oanswer_judge (Q := fun w' => Below W.heap.size W w') hnl hn1 (Lib.hid (c25_call s 12 0 0 0 0 o 0 0 0 x0 x1 x2 x3 x4 y0 y1 y2 y3 y4 0 0 0 0 0)) V hV.size hQ (fun U hU => ?_)
    exact (hj _ (Lib.hid (c25_j s 12 0 0 0 0 o 0 0 0 x0 x1 x2 x3 x4 y0 y1 y2 y3 y4 0 0 0 0 0)) U).mono (fun e w' h9 => ⟨h9.1, hV.trans ((hU.mono hV.size).trans (h9.2.mono (Nat.le_trans hV.size hU.size))), UpT.below h9.2⟩)
end
end Go.Proofs.YtncopdhhchmpeaaGreatDoor
namespace Go.Proofs.YtncopdhhchmpeaaGreatDoor
open Go.ChangeShapes Go.WideShapes Go.ChangeAt Go.RowKit
set_option linter.unusedVariables false
set_option linter.unusedSimpArgs false
def jD1 : BSt := openedB st0 (-1) 10
def jD2 : BSt := boughtN jD1 0 0 0 (freshV jD1.nW 0 (kcs (fun _ _ => 0) 0))
def jD3 : BSt := boughtP jD2 0 0 0 (fresh jD2.pW 0 [])
section
variable {w0 w : World} {L : BLoc} {X : SLoc} {D : BSt}
theorem chain0 (h : SJ w0 w L X D) (hn : D.nb = 1) (hp : D.pr 0 = -1) : chL D.pr ((0 : Nat) : Int) = [((0 : Nat) : Int)] := chL_root h.k.pk (by rw [hn]; decide) 0 (by rw [hn]; decide) hp
theorem sj_root (hn : 0 < L.n) (w : World) (h : SJ w0 w L X st0) : Calls Tryz.prog 12 #[.pointer (some ⟨L.P, 0, none⟩), .int .i64 10] w fun e w' => e = .returned (.tuple #[.int .i64 0, .int .i64 0, .nilIface]) ∧ SJ w0 w' L X jD1 :=
  (bwroot_w (D := st0) 10 (by decide) (by decide) 0 (Lib.hid rfl) hn w h.k).mono (fun e w' h9 => ⟨h9.1, h.step h9.2.1 h9.2.2⟩)
theorem sj_node (hn : 0 < L.a.n) (vs vr : Value) (w : World) (hE : ErrsAt vs vr w) (h : SJ w0 w L X jD1) : Calls Tryz.prog 15 #[.pointer (some ⟨L.P, 0, none⟩), .int .i64 0, .slice none 0 0] w fun e w' => e = .returned (.tuple #[.int .i64 0, .int .i64 0, .nilIface]) ∧ SJ w0 w' L X jD2 :=
  (bnode_w (D := jD1) 0 (by decide) vs vr none 0 0 (fun _ _ => 0) (Lib.hid (fun i hi => by omega)) (by decide) 0 hn (Lib.hid (by rfl)) (Lib.hid (fun i hi => by omega)) 0 (Lib.hid (by rfl)) (Lib.hid (by rw [chain0 h rfl rfl]; rfl)) (Lib.hid (fun i _ => by simp [jD1, openedB, st0, upd])) w h.k hE (srcv_none L w _)).mono (fun e w' h9 => ⟨h9.1, h.step h9.2.1 h9.2.2⟩)
theorem us2 (i : Nat) : 0 ≤ jD2.us i ∧ jD2.us i ≤ 1 := by
  show 0 ≤ addL jD1.us _ 1 i ∧ addL jD1.us _ 1 i ≤ 1
  unfold addL
  split <;> simp [jD1, openedB, st0, upd]
theorem sj_page (hn : 0 < L.b.n) (w : World) (h : SJ w0 w L X jD2) : Calls Tryz.prog 17 #[.pointer (some ⟨L.P, 0, none⟩), .int .i64 0, .slice none 0 0] w fun e w' => e = .returned (.tuple #[.int .i64 0, .int .i64 0, .nilIface]) ∧ SJ w0 w' L X jD3 :=
  (bpage_w (D := jD2) 0 (by decide) none 0 0 [] (Lib.hid rfl) (by decide) 0 hn (Lib.hid (by rfl)) (Lib.hid (fun i hi => by omega)) 0 (Lib.hid (by rfl)) (Lib.hid (by
    rw [chain0 h rfl rfl]
    have h1 := us2 0
    have h2 : jD2.lm 0 = 10 := rfl
    have h3 : ((0 : Nat) : Int).toNat = 0 := rfl
    simp only [List.any_cons, List.any_nil, Bool.or_false, fullB, h3, h2]
    exact decide_eq_false (by omega))) (Lib.hid (fun i _ => by have := us2 i; omega)) w h.k (srcw_none L w)).mono (fun e w' h9 => ⟨h9.1, h.step h9.2.1 h9.2.2⟩)
end
def nA (a b c : Int) : List Value := [.int .u32 0, .int .u32 a, .int .u32 b, .int .u32 c, .int .i64 0, .int .i64 0, .int .i64 0, .int .i64 0, .int .u32 0, .int .i64 0, .int .i64 0, .int .i64 0, .int .i64 0, .int .u32 0, .int .i64 0, .int .i64 0, .int .i64 0, .int .i64 0, .int .u32 0]
def nR (r0 r1 r2 r3 r4 : Int) : List Value := [.int .u32 0, .int .u32 0, .int .u32 0, .int .u32 0, .int .i64 r0, .int .i64 r1, .int .i64 r2, .int .i64 r3, .int .u32 r4, .int .i64 0, .int .i64 0, .int .i64 0, .int .i64 0, .int .u32 0, .int .i64 0, .int .i64 0, .int .i64 0, .int .i64 0, .int .u32 0]
theorem nA_len (a b c : Int) : (nA a b c).length = 19 := rfl
theorem nA_one (a b c : Int) : ∀ v, v ∈ nA a b c → v.oneCell' = true := by simp [nA, Value.oneCell']
theorem nR_len (r0 r1 r2 r3 r4 : Int) : (nR r0 r1 r2 r3 r4).length = 19 := rfl
theorem nR_one (r0 r1 r2 r3 r4 : Int) : ∀ v, v ∈ nR r0 r1 r2 r3 r4 → v.oneCell' = true := by simp [nR, Value.oneCell']
theorem one_is (b : Bool) (w : World) : Calls Tryz.prog 39 #[.bool b] w fun e w' => e = .returned (.int .u32 (cnt01 b)) ∧ Below w.heap.size w w' := by
  cases b
  · go_enter Tryz.func39, Tryz.ntmps39
    go_wp2_with fail
    go_ret
    exact ⟨rfl, Below.refl _ _⟩
  · go_enter Tryz.func39, Tryz.ntmps39
    go_wp2_with fail
    go_ret
    exact ⟨rfl, Below.refl _ _⟩
theorem js_keep {w13 W W' : World} {N0 N1 N2 KX KQ : Nat} {s u t : Bool} {x0 x1 x2 x3 x4 b0 b1 b2 b3 b4 r0 r1 r2 r3 r4 : Int} (HSA : Hid (∀ W, Below w13.heap.size w13 W → (Below w13.heap.size w13 W ∧ World.cell? W ⟨N0, 0, none⟩ = some (.int .u32 0) ∧ World.cell? W ⟨N0, 1, none⟩ = some (.int .u32 x0) ∧ World.cell? W ⟨N0, 2, none⟩ = some (.int .u32 (cnt01 s)) ∧ World.cell? W ⟨N0, 3, none⟩ = some (.int .u32 (cnt01 u)) ∧ World.cell? W ⟨N1, 1, none⟩ = some (.int .u32 (cnt01 t)) ∧ (World.cell? W ⟨KX, 0, none⟩ = some (.int .i64 x0) ∧ World.cell? W ⟨KX, 1, none⟩ = some (.int .i64 x1) ∧ World.cell? W ⟨KX, 2, none⟩ = some (.int .i64 x2) ∧ World.cell? W ⟨KX, 3, none⟩ = some (.int .i64 x3) ∧ World.cell? W ⟨KX, 4, none⟩ = some (.int .u32 x4)) ∧ (World.cell? W ⟨KQ, 0, none⟩ = some (.int .i64 b0) ∧ World.cell? W ⟨KQ, 1, none⟩ = some (.int .i64 b1) ∧ World.cell? W ⟨KQ, 2, none⟩ = some (.int .i64 b2) ∧ World.cell? W ⟨KQ, 3, none⟩ = some (.int .i64 b3) ∧ World.cell? W ⟨KQ, 4, none⟩ = some (.int .u32 b4)) ∧ (World.cell? W ⟨N2, 4, none⟩ = some (.int .i64 r0) ∧ World.cell? W ⟨N2, 5, none⟩ = some (.int .i64 r1) ∧ World.cell? W ⟨N2, 6, none⟩ = some (.int .i64 r2) ∧ World.cell? W ⟨N2, 7, none⟩ = some (.int .i64 r3) ∧ World.cell? W ⟨N2, 8, none⟩ = some (.int .u32 r4))))) (h : (Below w13.heap.size w13 W ∧ World.cell? W ⟨N0, 0, none⟩ = some (.int .u32 0) ∧ World.cell? W ⟨N0, 1, none⟩ = some (.int .u32 x0) ∧ World.cell? W ⟨N0, 2, none⟩ = some (.int .u32 (cnt01 s)) ∧ World.cell? W ⟨N0, 3, none⟩ = some (.int .u32 (cnt01 u)) ∧ World.cell? W ⟨N1, 1, none⟩ = some (.int .u32 (cnt01 t)) ∧ (World.cell? W ⟨KX, 0, none⟩ = some (.int .i64 x0) ∧ World.cell? W ⟨KX, 1, none⟩ = some (.int .i64 x1) ∧ World.cell? W ⟨KX, 2, none⟩ = some (.int .i64 x2) ∧ World.cell? W ⟨KX, 3, none⟩ = some (.int .i64 x3) ∧ World.cell? W ⟨KX, 4, none⟩ = some (.int .u32 x4)) ∧ (World.cell? W ⟨KQ, 0, none⟩ = some (.int .i64 b0) ∧ World.cell? W ⟨KQ, 1, none⟩ = some (.int .i64 b1) ∧ World.cell? W ⟨KQ, 2, none⟩ = some (.int .i64 b2) ∧ World.cell? W ⟨KQ, 3, none⟩ = some (.int .i64 b3) ∧ World.cell? W ⟨KQ, 4, none⟩ = some (.int .u32 b4)) ∧ (World.cell? W ⟨N2, 4, none⟩ = some (.int .i64 r0) ∧ World.cell? W ⟨N2, 5, none⟩ = some (.int .i64 r1) ∧ World.cell? W ⟨N2, 6, none⟩ = some (.int .i64 r2) ∧ World.cell? W ⟨N2, 7, none⟩ = some (.int .i64 r3) ∧ World.cell? W ⟨N2, 8, none⟩ = some (.int .u32 r4)))) (hb : Below W.heap.size W W') : (Below w13.heap.size w13 W' ∧ World.cell? W' ⟨N0, 0, none⟩ = some (.int .u32 0) ∧ World.cell? W' ⟨N0, 1, none⟩ = some (.int .u32 x0) ∧ World.cell? W' ⟨N0, 2, none⟩ = some (.int .u32 (cnt01 s)) ∧ World.cell? W' ⟨N0, 3, none⟩ = some (.int .u32 (cnt01 u)) ∧ World.cell? W' ⟨N1, 1, none⟩ = some (.int .u32 (cnt01 t)) ∧ (World.cell? W' ⟨KX, 0, none⟩ = some (.int .i64 x0) ∧ World.cell? W' ⟨KX, 1, none⟩ = some (.int .i64 x1) ∧ World.cell? W' ⟨KX, 2, none⟩ = some (.int .i64 x2) ∧ World.cell? W' ⟨KX, 3, none⟩ = some (.int .i64 x3) ∧ World.cell? W' ⟨KX, 4, none⟩ = some (.int .u32 x4)) ∧ (World.cell? W' ⟨KQ, 0, none⟩ = some (.int .i64 b0) ∧ World.cell? W' ⟨KQ, 1, none⟩ = some (.int .i64 b1) ∧ World.cell? W' ⟨KQ, 2, none⟩ = some (.int .i64 b2) ∧ World.cell? W' ⟨KQ, 3, none⟩ = some (.int .i64 b3) ∧ World.cell? W' ⟨KQ, 4, none⟩ = some (.int .u32 b4)) ∧ (World.cell? W' ⟨N2, 4, none⟩ = some (.int .i64 r0) ∧ World.cell? W' ⟨N2, 5, none⟩ = some (.int .i64 r1) ∧ World.cell? W' ⟨N2, 6, none⟩ = some (.int .i64 r2) ∧ World.cell? W' ⟨N2, 7, none⟩ = some (.int .i64 r3) ∧ World.cell? W' ⟨N2, 8, none⟩ = some (.int .u32 r4))) := HSA.out _ (h.1.trans (hb.mono h.1.size))
set_option maxRecDepth 100000 in
set_option maxHeartbeats 16000000 in
theorem judges_walk (a0 a1 a2 a3 a4 : Int) (b0 b1 b2 b3 b4 : Int) (ha : codeOf a0 a1 a2 a3 a4 = 0) (hb : codeOf b0 b1 b2 b3 b4 = 0) (ga : 0 ≤ a4 ∧ a4 ≤ 4294967295) (gb : 0 ≤ b4 ∧ b4 ≤ 4294967295) (vs vr : Value) (w : World) (hE : ErrsAt vs vr w) :
    Calls Tryz.prog 7 #[(Value.agg #[.int .i64 a0, .int .i64 a1, .int .i64 a2, .int .i64 a3, .int .u32 a4]), (Value.agg #[.int .i64 b0, .int .i64 b1, .int .i64 b2, .int .i64 b3, .int .u32 b4])] w fun e w' => e = .returned (.bool true) ∧ Below w.heap.size w w' := by
  have HE := Lib.hid hE
  have HCa := Lib.hid ha
  have HCb := Lib.hid hb
  clear hE ha hb
  go_enter Tryz.func7, Tryz.ntmps7
  go_upto_region 1 with fail
  generalize hA : World.alloc w _ = wa
  obtain ⟨KA, hKA⟩ : ∃ KA, KA = w.heap.size := ⟨_, rfl⟩
  have HA : Hid (Below w.heap.size w wa ∧ KeyC wa KA a0 a1 a2 a3 a4 ∧ wa.heap.size = KA + 1) := Lib.hid (by rw [← hA, hKA]; exact ⟨(Below.refl _ _).alloc (Nat.le_refl _) _, KeyC.new w a0 a1 a2 a3 a4 _, by simp⟩)
  rw [← hKA]
  clear hA hKA
  generalize hA : World.alloc wa _ = wb
  obtain ⟨KQ, hKQ⟩ : ∃ KQ, KQ = KA + 1 := ⟨_, rfl⟩
  have HB : Hid (Below w.heap.size w wb ∧ KeyC wb KA a0 a1 a2 a3 a4 ∧ KeyC wb KQ b0 b1 b2 b3 b4) := Lib.hid (by rw [← hA, hKQ, ← HA.out.2.2]; exact ⟨HA.out.1.alloc HA.out.1.size _, HA.out.2.1.below ((Below.refl _ _).alloc (Nat.le_refl _) _), KeyC.new wa b0 b1 b2 b3 b4 _⟩)
  rw [← hKQ]
  clear hA hKQ
  go_upto_region 4 with (first
    | (go_at_call 27; (with_reducible refine (first22_is vs vr _ (HE.out.below HB.out.1)).mono ?_); rintro e w1 ⟨rfl, hb⟩; have H1 : Hid (Below w.heap.size w w1 ∧ KeyC w1 KA a0 a1 a2 a3 a4 ∧ KeyC w1 KQ b0 b1 b2 b3 b4) := (Lib.hid ⟨(HB).out.1.trans (hb.mono (HB).out.1.size), (HB).out.2.1.below hb, (HB).out.2.2.below hb⟩); clear hb))
  obtain ⟨q0, q1, q2, q3, q4⟩ := ofive H1.out.2.1
  go_upto_region 6 with (first
    | (go_at_call 38; (with_reducible refine (valid_is a0 a1 a2 a3 a4 0 HCa ga.2 _).mono ?_); rintro e w2 ⟨rfl, hb⟩; have H2 : Hid (Below w.heap.size w w2 ∧ KeyC w2 KA a0 a1 a2 a3 a4 ∧ KeyC w2 KQ b0 b1 b2 b3 b4) := (Lib.hid ⟨(H1).out.1.trans (hb.mono (H1).out.1.size), (H1).out.2.1.below hb, (H1).out.2.2.below hb⟩); clear hb; obtain ⟨p0, p1, p2, p3, p4⟩ := ofive H2.out.2.2)
    | (go_at_call 38; (with_reducible refine (valid_is b0 b1 b2 b3 b4 0 HCb gb.2 _).mono ?_); rintro e w3 ⟨rfl, hb⟩; have H3 : Hid (Below w.heap.size w w3 ∧ KeyC w3 KA a0 a1 a2 a3 a4 ∧ KeyC w3 KQ b0 b1 b2 b3 b4) := (Lib.hid ⟨(H2).out.1.trans (hb.mono (H2).out.1.size), (H2).out.2.1.below hb, (H2).out.2.2.below hb⟩); clear hb))
  clear q0 q1 q2 q3 q4 p0 p1 p2 p3 p4
  go_upto_region 9 with (first
    | (go_at_call 11; (with_reducible refine (script_ok _).mono ?_); rintro e w4 ⟨L, X, x, rfl, hs, hn, hb⟩; have HJ4 := Lib.hid hs.sj; have HN := Lib.hid hn.out; have H4 : Hid (Below w.heap.size w w4 ∧ KeyC w4 KA a0 a1 a2 a3 a4 ∧ KeyC w4 KQ b0 b1 b2 b3 b4) := (Lib.hid ⟨(H3).out.1.trans (hb.mono (H3).out.1.size), (H3).out.2.1.below hb, (H3).out.2.2.below hb⟩); clear hs hn hb))
  have sc := HJ4.out.b.c3
  have hnb : 0 < L.n := by have := HN.out.2.2.2.2.1; omega
  have hna : 0 < L.a.n := by have := HN.out.1; omega
  have hnp : 0 < L.b.n := by have := HN.out.2.1; omega
  have HEB : Hid (∀ W D, SJ w3 W L X D → ErrsAt vs vr W) := Lib.hid (fun W D h => HE.out.below (H3.out.1.trans (h.k.bel.mono H3.out.1.size)))
  go_upto_region 12 with (first
    | (go_at_call 12; (with_reducible refine (sj_root hnb _ HJ4.out).mono ?_); rintro e w5 ⟨rfl, hj⟩; have HJ5 := Lib.hid hj; clear hj sc; have sc := HJ5.out.b.c3)
    | (go_at_call 15; (with_reducible refine (sj_node hna vs vr _ (HEB.out _ _ HJ5.out) HJ5.out).mono ?_); rintro e w6 ⟨rfl, hj⟩; have HJ6 := Lib.hid hj; clear hj sc; have sc := HJ6.out.b.c3)
    | (go_at_call 17; (with_reducible refine (sj_page hnp _ HJ6.out).mono ?_); rintro e w7 ⟨rfl, hj⟩; have HJ7 := Lib.hid hj; clear hj sc))
  have H7 : Hid (Below w.heap.size w w7 ∧ KeyC w7 KA a0 a1 a2 a3 a4 ∧ KeyC w7 KQ b0 b1 b2 b3 b4) := Lib.hid (by have hb := HJ7.out.k.bel; exact ⟨H3.out.1.trans (hb.mono H3.out.1.size), H3.out.2.1.below hb, H3.out.2.2.below hb⟩)
  have HE7 := Lib.hid (HEB.out _ _ HJ7.out)
  obtain ⟨x0, x1, x2, x3, x4, hcx, hx14, hsx⟩ := seen_ex HJ7.out rfl vs vr HE7.out a0 a1 a2 a3 a4 HCa.out ga.1
  obtain ⟨y0, y1, y2, y3, y4, hcy, hy14, hsy⟩ := seen_ex HJ7.out rfl vs vr HE7.out b0 b1 b2 b3 b4 HCb.out gb.1
  obtain ⟨s, u, r0, r1, r2, r3, r4, hkf⟩ := key_facts x0 x1 x2 x3 x4 hcx
  have HSX := Lib.hid hsx
  have HSY := Lib.hid hsy
  have HKF := Lib.hid hkf
  clear hcx hcy hy14 hsx hsy hkf
  obtain ⟨t, HT⟩ : ∃ t, Hid (sameB x0 x1 x2 x3 x4 y0 y1 y2 y3 y4 = t) := ⟨_, Lib.hid rfl⟩
  have HA0 : Hid (∀ W, Below w7.heap.size w7 W → Calls Tryz.prog 32 #[.pointer (some ⟨X.s, 0, none⟩), (Value.agg #[.int .i64 12, .int .i64 0, .int .i64 0, .int .i64 0, .int .u32 0]), .agg #[.int .u32 0, .int .u32 0, .int .u32 0, .int .u32 0, .int .i64 a0, .int .i64 a1, .int .i64 a2, .int .i64 a3, .int .u32 a4, .int .i64 0, .int .i64 0, .int .i64 0, .int .i64 0, .int .u32 0, .int .i64 0, .int .i64 0, .int .i64 0, .int .i64 0, .int .u32 0]] W fun e w' => e = .returned (.tuple #[.agg (nA x0 (cnt01 s) (cnt01 u)).toArray, .bool true]) ∧ Below W.heap.size W w') := Lib.hid (fun W hW => ans_judge (nA_len _ _ _) (nA_one _ _ _) X.s 0 a0 a1 a2 a3 a4 0 0 0 0 0 x0 x1 x2 x3 x4 0 0 0 0 0 vs vr w7 W hW HE7.out HSX.out (fun V hV => oseen_void X.s vs vr V (HE7.out.below hV)) (fun cs hc V => cjudge_0 s u hx14 (Lib.hid HKF.out.pS) (Lib.hid HKF.out.pU) hc V))
  have HA1 : Hid (∀ W, Below w7.heap.size w7 W → Calls Tryz.prog 32 #[.pointer (some ⟨X.s, 0, none⟩), (Value.agg #[.int .i64 12, .int .i64 0, .int .i64 0, .int .i64 0, .int .u32 0]), .agg #[.int .u32 1, .int .u32 0, .int .u32 0, .int .u32 0, .int .i64 a0, .int .i64 a1, .int .i64 a2, .int .i64 a3, .int .u32 a4, .int .i64 b0, .int .i64 b1, .int .i64 b2, .int .i64 b3, .int .u32 b4, .int .i64 0, .int .i64 0, .int .i64 0, .int .i64 0, .int .u32 0]] W fun e w' => e = .returned (.tuple #[.agg (nA (cnt01 t) 0 0).toArray, .bool true]) ∧ Below W.heap.size W w') := Lib.hid (fun W hW => ans_judge (nA_len _ _ _) (nA_one _ _ _) X.s 1 a0 a1 a2 a3 a4 b0 b1 b2 b3 b4 x0 x1 x2 x3 x4 y0 y1 y2 y3 y4 vs vr w7 W hW HE7.out HSX.out HSY.out (fun cs hc V => cjudge_1 t HT hc V))
  have HA2 : Hid (∀ W, Below w7.heap.size w7 W → Calls Tryz.prog 32 #[.pointer (some ⟨X.s, 0, none⟩), (Value.agg #[.int .i64 12, .int .i64 0, .int .i64 0, .int .i64 0, .int .u32 0]), .agg #[.int .u32 2, .int .u32 0, .int .u32 0, .int .u32 0, .int .i64 a0, .int .i64 a1, .int .i64 a2, .int .i64 a3, .int .u32 a4, .int .i64 0, .int .i64 0, .int .i64 0, .int .i64 0, .int .u32 0, .int .i64 0, .int .i64 0, .int .i64 0, .int .i64 0, .int .u32 0]] W fun e w' => e = .returned (.tuple #[.agg (nR r0 r1 r2 r3 r4).toArray, .bool true]) ∧ Below W.heap.size W w') := Lib.hid (fun W hW => ans_judge (nR_len _ _ _ _ _) (nR_one _ _ _ _ _) X.s 2 a0 a1 a2 a3 a4 0 0 0 0 0 x0 x1 x2 x3 x4 0 0 0 0 0 vs vr w7 W hW HE7.out HSX.out (fun V hV => oseen_void X.s vs vr V (HE7.out.below hV)) (fun cs hc V => cjudge_2 r0 r1 r2 r3 r4 (Lib.hid HKF.out.pW) hc V))
  have hz19 : (nA x0 (cnt01 s) (cnt01 u)).toArray.size = 19 := rfl
  have hz19b : (nA (cnt01 t) 0 0).toArray.size = 19 := rfl
  have hz19c : (nR r0 r1 r2 r3 r4).toArray.size = 19 := rfl
  go_upto_region 13 with fail
  generalize hg : World.alloc w7 _ = w8
  obtain ⟨KJ, hKJ⟩ : ∃ KJ, KJ = w7.heap.size := ⟨_, rfl⟩
  have H8 : Hid (Below w7.heap.size w7 w8 ∧ KeyC w8 KJ 12 0 0 0 0) := Lib.hid (by rw [← hg, hKJ]; exact ⟨(Below.refl _ _).alloc (Nat.le_refl _) _, KeyC.new _ _ _ _ _ _ _⟩)
  rw [← hKJ]
  clear hg hKJ
  obtain ⟨q0, q1, q2, q3, q4⟩ := ofive (H7.out.2.1.below H8.out.1)
  go_upto_region 14 with (first
    | (go_at_call 23; (with_reducible refine (HSX.out _ H8.out.1).mono ?_); rintro e w9 ⟨rfl, hb⟩; have HB9 : Hid (Below w8.heap.size w8 w9) := Lib.hid hb; clear hb))
  generalize hg : World.alloc w9 _ = w10
  obtain ⟨KX, hKX⟩ : ∃ KX, KX = w9.heap.size := ⟨_, rfl⟩
  have H10 : Hid (Below w7.heap.size w7 w10 ∧ KeyC w10 KX x0 x1 x2 x3 x4 ∧ KeyC w10 KJ 12 0 0 0 0) := Lib.hid (by
    have h9 : Below w8.heap.size w8 w10 := by rw [← hg]; exact HB9.out.alloc HB9.out.size _
    exact ⟨H8.out.1.trans (h9.mono H8.out.1.size), by rw [← hg, hKX]; exact KeyC.new _ _ _ _ _ _ _, H8.out.2.below h9⟩)
  rw [← hKX]
  clear hg hKX q0 q1 q2 q3 q4
  obtain ⟨q0, q1, q2, q3, q4⟩ := ofive (H7.out.2.1.below H10.out.1)
  obtain ⟨p0, p1, p2, p3, p4⟩ := ofive H10.out.2.2
  go_upto_region 15 with (first
    | (go_at_call 32; (with_reducible refine (HA0.out _ H10.out.1).mono ?_); rintro e w11 ⟨rfl, hb⟩; have HB11 : Hid (Below w7.heap.size w7 w11 ∧ Below w10.heap.size w10 w11) := Lib.hid ⟨H10.out.1.trans (hb.mono H10.out.1.size), hb⟩; clear hb)
    | (refine wpList_store_mid (by rfl) _ _ _ (by rfl) w11.heap.size 0 (nA x0 (cnt01 s) (cnt01 u)).toArray (by rfl) (by rfl) (by rw [hz19]; exact nthere_new _ _ 19 (by rfl) _) (by rw [hz19]; exact infoNote) (all_one (nA_one _ _ _)) ?_))
  generalize hg : World.setCells _ w11.heap.size 0 _ = w12; obtain ⟨N0, hN⟩ : ∃ N, N = w11.heap.size := ⟨_, rfl⟩; have HN0 : Hid (Below w11.heap.size w11 w12 ∧ World.rangeAt w12 N0 0 (nA x0 (cnt01 s) (cnt01 u)) ∧ N0 < w12.heap.size) := (Lib.hid (by have hb : Below w11.heap.size w11 w12 := (by rw [← hg]; exact nbelow_cells ((Below.refl w11.heap.size w11).alloc (Nat.le_refl _) _) (Nat.le_refl _) _ _); have hr : World.rangeAt w12 N0 0 (nA x0 (cnt01 s) (cnt01 u)) := (by rw [← hg, hN]; exact World.rangeAt_setCells_same _ w11.heap.size 0 (nA x0 (cnt01 s) (cnt01 u)) (by rw [(nA_len _ _ _)]; exact nthere_new _ _ 19 (by rfl) _)); exact ⟨hb, hr, cell_lt (CallC.cell hr 0 _ rfl)⟩)); rw [← hN]; clear hg hN
  have H12 : Hid (Below w7.heap.size w7 w12 ∧ Below w10.heap.size w10 w12) := Lib.hid ⟨HB11.out.1.trans (HN0.out.1.mono HB11.out.1.size), HB11.out.2.trans (HN0.out.1.mono HB11.out.2.size)⟩
  clear q0 q1 q2 q3 q4 p0 p1 p2 p3 p4
  obtain ⟨q0, q1, q2, q3, q4⟩ := ofive (H7.out.2.1.below H12.out.1)
  obtain ⟨p0, p1, p2, p3, p4⟩ := ofive (H10.out.2.2.below H12.out.2)
  obtain ⟨t0, t1, t2, t3, t4⟩ := ofive (H7.out.2.2.below H12.out.1)
  go_upto_region 16 with (first
    | (go_at_call 32; (with_reducible refine (HA1.out _ H12.out.1).mono ?_); rintro e w13 ⟨rfl, hb⟩; have HB13 : Hid (Below w7.heap.size w7 w13 ∧ Below w12.heap.size w12 w13) := Lib.hid ⟨H12.out.1.trans (hb.mono H12.out.1.size), hb⟩; clear hb)
    | (refine wpList_store_mid (by rfl) _ _ _ (by rfl) w13.heap.size 0 (nA (cnt01 t) 0 0).toArray (by rfl) (by rfl) (by rw [hz19b]; exact nthere_new _ _ 19 (by rfl) _) (by rw [hz19b]; exact infoNote) (all_one (nA_one _ _ _)) ?_))
  generalize hg : World.setCells _ w13.heap.size 0 _ = w14; obtain ⟨N1, hN⟩ : ∃ N, N = w13.heap.size := ⟨_, rfl⟩; have HN1 : Hid (Below w13.heap.size w13 w14 ∧ World.rangeAt w14 N1 0 (nA (cnt01 t) 0 0) ∧ N1 < w14.heap.size) := (Lib.hid (by have hb : Below w13.heap.size w13 w14 := (by rw [← hg]; exact nbelow_cells ((Below.refl w13.heap.size w13).alloc (Nat.le_refl _) _) (Nat.le_refl _) _ _); have hr : World.rangeAt w14 N1 0 (nA (cnt01 t) 0 0) := (by rw [← hg, hN]; exact World.rangeAt_setCells_same _ w13.heap.size 0 (nA (cnt01 t) 0 0) (by rw [(nA_len _ _ _)]; exact nthere_new _ _ 19 (by rfl) _)); exact ⟨hb, hr, cell_lt (CallC.cell hr 0 _ rfl)⟩)); rw [← hN]; clear hg hN
  have H14 : Hid (Below w7.heap.size w7 w14 ∧ Below w12.heap.size w12 w14) := Lib.hid ⟨HB13.out.1.trans (HN1.out.1.mono HB13.out.1.size), HB13.out.2.trans (HN1.out.1.mono HB13.out.2.size)⟩
  clear q0 q1 q2 q3 q4 p0 p1 p2 p3 p4 t0 t1 t2 t3 t4
  obtain ⟨q0, q1, q2, q3, q4⟩ := ofive (H7.out.2.1.below H14.out.1)
  obtain ⟨p0, p1, p2, p3, p4⟩ := ofive (H10.out.2.2.below (H12.out.2.trans (H14.out.2.mono H12.out.2.size)))
  go_upto_region 17 with (first
    | (go_at_call 32; (with_reducible refine (HA2.out _ H14.out.1).mono ?_); rintro e w15 ⟨rfl, hb⟩; have HB15 : Hid (Below w7.heap.size w7 w15 ∧ Below w14.heap.size w14 w15) := Lib.hid ⟨H14.out.1.trans (hb.mono H14.out.1.size), hb⟩; clear hb)
    | (refine wpList_store_mid (by rfl) _ _ _ (by rfl) w15.heap.size 0 (nR r0 r1 r2 r3 r4).toArray (by rfl) (by rfl) (by rw [hz19c]; exact nthere_new _ _ 19 (by rfl) _) (by rw [hz19c]; exact infoNote) (all_one (nR_one _ _ _ _ _)) ?_))
  generalize hg : World.setCells _ w15.heap.size 0 _ = w16; obtain ⟨N2, hN⟩ : ∃ N, N = w15.heap.size := ⟨_, rfl⟩; have HN2 : Hid (Below w15.heap.size w15 w16 ∧ World.rangeAt w16 N2 0 (nR r0 r1 r2 r3 r4) ∧ N2 < w16.heap.size) := (Lib.hid (by have hb : Below w15.heap.size w15 w16 := (by rw [← hg]; exact nbelow_cells ((Below.refl w15.heap.size w15).alloc (Nat.le_refl _) _) (Nat.le_refl _) _ _); have hr : World.rangeAt w16 N2 0 (nR r0 r1 r2 r3 r4) := (by rw [← hg, hN]; exact World.rangeAt_setCells_same _ w15.heap.size 0 (nR r0 r1 r2 r3 r4) (by rw [(nR_len _ _ _ _ _)]; exact nthere_new _ _ 19 (by rfl) _)); exact ⟨hb, hr, cell_lt (CallC.cell hr 0 _ rfl)⟩)); rw [← hN]; clear hg hN
  clear q0 q1 q2 q3 q4 p0 p1 p2 p3 p4
  go_upto_region 18 with fail
  have H16a : Hid (Below w14.heap.size w14 w16) := Lib.hid (HB15.out.2.trans (HN2.out.1.mono HB15.out.2.size))
  have H16b : Hid (Below w12.heap.size w12 w16) := Lib.hid (H14.out.2.trans (H16a.out.mono H14.out.2.size))
  have H16c : Hid (Below w10.heap.size w10 w16) := Lib.hid (H12.out.2.trans (H16b.out.mono H12.out.2.size))
  have H16d : Hid (Below w7.heap.size w7 w16) := Lib.hid (H10.out.1.trans (H16c.out.mono H10.out.1.size))
  have HSA : Hid (∀ W, Below w16.heap.size w16 W → (Below w16.heap.size w16 W ∧ World.cell? W ⟨N0, 0, none⟩ = some (.int .u32 0) ∧ World.cell? W ⟨N0, 1, none⟩ = some (.int .u32 x0) ∧ World.cell? W ⟨N0, 2, none⟩ = some (.int .u32 (cnt01 s)) ∧ World.cell? W ⟨N0, 3, none⟩ = some (.int .u32 (cnt01 u)) ∧ World.cell? W ⟨N1, 1, none⟩ = some (.int .u32 (cnt01 t)) ∧ (World.cell? W ⟨KX, 0, none⟩ = some (.int .i64 x0) ∧ World.cell? W ⟨KX, 1, none⟩ = some (.int .i64 x1) ∧ World.cell? W ⟨KX, 2, none⟩ = some (.int .i64 x2) ∧ World.cell? W ⟨KX, 3, none⟩ = some (.int .i64 x3) ∧ World.cell? W ⟨KX, 4, none⟩ = some (.int .u32 x4)) ∧ (World.cell? W ⟨KQ, 0, none⟩ = some (.int .i64 b0) ∧ World.cell? W ⟨KQ, 1, none⟩ = some (.int .i64 b1) ∧ World.cell? W ⟨KQ, 2, none⟩ = some (.int .i64 b2) ∧ World.cell? W ⟨KQ, 3, none⟩ = some (.int .i64 b3) ∧ World.cell? W ⟨KQ, 4, none⟩ = some (.int .u32 b4)) ∧ (World.cell? W ⟨N2, 4, none⟩ = some (.int .i64 r0) ∧ World.cell? W ⟨N2, 5, none⟩ = some (.int .i64 r1) ∧ World.cell? W ⟨N2, 6, none⟩ = some (.int .i64 r2) ∧ World.cell? W ⟨N2, 7, none⟩ = some (.int .i64 r3) ∧ World.cell? W ⟨N2, 8, none⟩ = some (.int .u32 r4)))) := Lib.hid (fun W hW => by
    have n0 := range_below (range_below HN0.out.2.1 H16b.out HN0.out.2.2) hW (Nat.lt_of_lt_of_le HN0.out.2.2 H16b.out.size)
    have n1 := range_below (range_below HN1.out.2.1 H16a.out HN1.out.2.2) hW (Nat.lt_of_lt_of_le HN1.out.2.2 H16a.out.size)
    have n2 := range_below HN2.out.2.1 hW HN2.out.2.2
    exact ⟨hW, CallC.cell n0 0 _ rfl, CallC.cell n0 1 _ rfl, CallC.cell n0 2 _ rfl, CallC.cell n0 3 _ rfl, CallC.cell n1 1 _ rfl, ofive ((H10.out.2.1.below H16c.out).below hW), ofive ((H7.out.2.2.below H16d.out).below hW), CallC.cell n2 4 _ rfl, CallC.cell n2 5 _ rfl, CallC.cell n2 6 _ rfl, CallC.cell n2 7 _ rfl, CallC.cell n2 8 _ rfl⟩)
  have HSB : Hid (∀ W, Below w16.heap.size w16 W → Calls Tryz.prog 23 #[.pointer (some ⟨X.s, 0, none⟩), (Value.agg #[.int .i64 b0, .int .i64 b1, .int .i64 b2, .int .i64 b3, .int .u32 b4])] W fun e w' => e = .returned (Value.agg #[.int .i64 y0, .int .i64 y1, .int .i64 y2, .int .i64 y3, .int .u32 y4]) ∧ Below W.heap.size W w') := Lib.hid (fun W hW => HSY.out W (H16d.out.trans (hW.mono H16d.out.size)))
  have hw : IntKind.u32.wrap x0 = x0 := by rw [IntKind.wrap_u32]; omega
  have HP16 : Hid (Below w.heap.size w w16) := Lib.hid (H7.out.1.trans (H16d.out.mono H7.out.1.size))
  clear hx14 ga gb hnb hna hnp
  go_region_held3 (fun W => (Below w16.heap.size w16 W ∧ World.cell? W ⟨N0, 0, none⟩ = some (.int .u32 0) ∧ World.cell? W ⟨N0, 1, none⟩ = some (.int .u32 x0) ∧ World.cell? W ⟨N0, 2, none⟩ = some (.int .u32 (cnt01 s)) ∧ World.cell? W ⟨N0, 3, none⟩ = some (.int .u32 (cnt01 u)) ∧ World.cell? W ⟨N1, 1, none⟩ = some (.int .u32 (cnt01 t)) ∧ (World.cell? W ⟨KX, 0, none⟩ = some (.int .i64 x0) ∧ World.cell? W ⟨KX, 1, none⟩ = some (.int .i64 x1) ∧ World.cell? W ⟨KX, 2, none⟩ = some (.int .i64 x2) ∧ World.cell? W ⟨KX, 3, none⟩ = some (.int .i64 x3) ∧ World.cell? W ⟨KX, 4, none⟩ = some (.int .u32 x4)) ∧ (World.cell? W ⟨KQ, 0, none⟩ = some (.int .i64 b0) ∧ World.cell? W ⟨KQ, 1, none⟩ = some (.int .i64 b1) ∧ World.cell? W ⟨KQ, 2, none⟩ = some (.int .i64 b2) ∧ World.cell? W ⟨KQ, 3, none⟩ = some (.int .i64 b3) ∧ World.cell? W ⟨KQ, 4, none⟩ = some (.int .u32 b4)) ∧ (World.cell? W ⟨N2, 4, none⟩ = some (.int .i64 r0) ∧ World.cell? W ⟨N2, 5, none⟩ = some (.int .i64 r1) ∧ World.cell? W ⟨N2, 6, none⟩ = some (.int .i64 r2) ∧ World.cell? W ⟨N2, 7, none⟩ = some (.int .i64 r3) ∧ World.cell? W ⟨N2, 8, none⟩ = some (.int .u32 r4)))) (first | exact HSA.out _ (Below.refl _ _).drew | exact js_keep HSA (by assumption) hb) (first
    | (go_at_call 40; (with_reducible refine (HKF.out.rS _).mono ?_); rintro e w' ⟨rfl, hb⟩)
    | (go_at_call 41; (with_reducible refine (HKF.out.rU _).mono ?_); rintro e w' ⟨rfl, hb⟩)
    | (go_at_call 36; (with_reducible refine (HKF.out.rW _).mono ?_); rintro e w' ⟨rfl, hb⟩)
    | (go_at_call 39; (with_reducible refine (one_is _ _).mono ?_); rintro e w' ⟨rfl, hb⟩)
    | (go_at_call 23; (with_reducible refine (HSB.out _ (And.left (by assumption))).mono ?_); rintro e w' ⟨rfl, hb⟩)
    | (go_at_call 22; (with_reducible refine (same_is x0 x1 x2 x3 x4 y0 y1 y2 y3 y4 t HT _).mono ?_); rintro e w' ⟨rfl, hb⟩)
    | (go_at_call 22; (with_reducible refine (same_is r0 r1 r2 r3 r4 r0 r1 r2 r3 r4 true (same_self r0 r1 r2 r3 r4) _).mono ?_); rintro e w' ⟨rfl, hb⟩))
  go_wp2_with fail
  go_ret
  refine ⟨rfl, HP16.out.trans (Below.mono ?_ HP16.out.size)⟩
  apply And.left
  assumption
set_option maxRecDepth 100000 in
set_option maxHeartbeats 4000000 in
theorem judges_early (a0 a1 a2 a3 a4 : Int) (b0 b1 b2 b3 b4 : Int) (c d : Int) (hc : Hid (codeOf a0 a1 a2 a3 a4 = c)) (hd : Hid (codeOf b0 b1 b2 b3 b4 = d)) (h : c = 102 ∨ c = 103 ∨ (c = 0 ∧ (d = 102 ∨ d = 103))) (ga : a4 ≤ 4294967295) (gb : b4 ≤ 4294967295) (vs vr : Value) (w : World) (hE : ErrsAt vs vr w) :
    Calls Tryz.prog 7 #[(Value.agg #[.int .i64 a0, .int .i64 a1, .int .i64 a2, .int .i64 a3, .int .u32 a4]), (Value.agg #[.int .i64 b0, .int .i64 b1, .int .i64 b2, .int .i64 b3, .int .u32 b4])] w fun e w' => e = .returned (.bool true) ∧ Below w.heap.size w w' := by
  have HE := Lib.hid hE
  clear hE
  rcases h with rfl | rfl | ⟨rfl, rfl | rfl⟩
  · go_enter Tryz.func7, Tryz.ntmps7; go_upto_region 1 with fail; generalize hA : World.alloc w _ = wa; obtain ⟨KA, hKA⟩ : ∃ KA, KA = w.heap.size := ⟨_, rfl⟩; have HA : Hid (Below w.heap.size w wa ∧ KeyC wa KA a0 a1 a2 a3 a4 ∧ wa.heap.size = KA + 1) := (Lib.hid (by rw [← hA, hKA]; exact ⟨(Below.refl _ _).alloc (Nat.le_refl _) _, KeyC.new w a0 a1 a2 a3 a4 _, by simp⟩)); rw [← hKA]; clear hA hKA; generalize hA : World.alloc wa _ = wb; obtain ⟨KQ, hKQ⟩ : ∃ KQ, KQ = KA + 1 := ⟨_, rfl⟩; have HB : Hid (Below w.heap.size w wb ∧ KeyC wb KA a0 a1 a2 a3 a4 ∧ KeyC wb KQ b0 b1 b2 b3 b4) := (Lib.hid (by rw [← hA, hKQ, ← HA.out.2.2]; exact ⟨HA.out.1.alloc HA.out.1.size _, HA.out.2.1.below ((Below.refl _ _).alloc (Nat.le_refl _) _), KeyC.new wa b0 b1 b2 b3 b4 _⟩)); rw [← hKQ]; clear hA hKQ; go_upto_region 4 with (first | (go_at_call 27; (with_reducible refine (first22_is vs vr _ (HE.out.below HB.out.1)).mono ?_); rintro e w1 ⟨rfl, hb⟩; have H1 : Hid (Below w.heap.size w w1 ∧ KeyC w1 KA a0 a1 a2 a3 a4 ∧ KeyC w1 KQ b0 b1 b2 b3 b4) := (Lib.hid ⟨(HB).out.1.trans (hb.mono (HB).out.1.size), (HB).out.2.1.below hb, (HB).out.2.2.below hb⟩); clear hb)); obtain ⟨q0, q1, q2, q3, q4⟩ := ofive H1.out.2.1; go_wp2_with (first | (go_at_call 38; (with_reducible refine (valid_is a0 a1 a2 a3 a4 102 hc ga _).mono ?_); rintro e w2 ⟨rfl, hb⟩; have H2 : Hid (Below w.heap.size w w2 ∧ KeyC w2 KA a0 a1 a2 a3 a4 ∧ KeyC w2 KQ b0 b1 b2 b3 b4) := (Lib.hid ⟨(H1).out.1.trans (hb.mono (H1).out.1.size), (H1).out.2.1.below hb, (H1).out.2.2.below hb⟩); clear hb; obtain ⟨p0, p1, p2, p3, p4⟩ := ofive H2.out.2.2) | (go_at_call 38; (with_reducible refine (valid_is b0 b1 b2 b3 b4 0 hd gb _).mono ?_); rintro e w3 ⟨rfl, hb⟩; have H3 : Hid (Below w.heap.size w w3 ∧ KeyC w3 KA a0 a1 a2 a3 a4 ∧ KeyC w3 KQ b0 b1 b2 b3 b4) := (Lib.hid ⟨(H2).out.1.trans (hb.mono (H2).out.1.size), (H2).out.2.1.below hb, (H2).out.2.2.below hb⟩); clear hb)); go_ret
    exact ⟨rfl, H2.out.1⟩
  · go_enter Tryz.func7, Tryz.ntmps7; go_upto_region 1 with fail; generalize hA : World.alloc w _ = wa; obtain ⟨KA, hKA⟩ : ∃ KA, KA = w.heap.size := ⟨_, rfl⟩; have HA : Hid (Below w.heap.size w wa ∧ KeyC wa KA a0 a1 a2 a3 a4 ∧ wa.heap.size = KA + 1) := (Lib.hid (by rw [← hA, hKA]; exact ⟨(Below.refl _ _).alloc (Nat.le_refl _) _, KeyC.new w a0 a1 a2 a3 a4 _, by simp⟩)); rw [← hKA]; clear hA hKA; generalize hA : World.alloc wa _ = wb; obtain ⟨KQ, hKQ⟩ : ∃ KQ, KQ = KA + 1 := ⟨_, rfl⟩; have HB : Hid (Below w.heap.size w wb ∧ KeyC wb KA a0 a1 a2 a3 a4 ∧ KeyC wb KQ b0 b1 b2 b3 b4) := (Lib.hid (by rw [← hA, hKQ, ← HA.out.2.2]; exact ⟨HA.out.1.alloc HA.out.1.size _, HA.out.2.1.below ((Below.refl _ _).alloc (Nat.le_refl _) _), KeyC.new wa b0 b1 b2 b3 b4 _⟩)); rw [← hKQ]; clear hA hKQ; go_upto_region 4 with (first | (go_at_call 27; (with_reducible refine (first22_is vs vr _ (HE.out.below HB.out.1)).mono ?_); rintro e w1 ⟨rfl, hb⟩; have H1 : Hid (Below w.heap.size w w1 ∧ KeyC w1 KA a0 a1 a2 a3 a4 ∧ KeyC w1 KQ b0 b1 b2 b3 b4) := (Lib.hid ⟨(HB).out.1.trans (hb.mono (HB).out.1.size), (HB).out.2.1.below hb, (HB).out.2.2.below hb⟩); clear hb)); obtain ⟨q0, q1, q2, q3, q4⟩ := ofive H1.out.2.1; go_wp2_with (first | (go_at_call 38; (with_reducible refine (valid_is a0 a1 a2 a3 a4 103 hc ga _).mono ?_); rintro e w2 ⟨rfl, hb⟩; have H2 : Hid (Below w.heap.size w w2 ∧ KeyC w2 KA a0 a1 a2 a3 a4 ∧ KeyC w2 KQ b0 b1 b2 b3 b4) := (Lib.hid ⟨(H1).out.1.trans (hb.mono (H1).out.1.size), (H1).out.2.1.below hb, (H1).out.2.2.below hb⟩); clear hb; obtain ⟨p0, p1, p2, p3, p4⟩ := ofive H2.out.2.2) | (go_at_call 38; (with_reducible refine (valid_is b0 b1 b2 b3 b4 0 hd gb _).mono ?_); rintro e w3 ⟨rfl, hb⟩; have H3 : Hid (Below w.heap.size w w3 ∧ KeyC w3 KA a0 a1 a2 a3 a4 ∧ KeyC w3 KQ b0 b1 b2 b3 b4) := (Lib.hid ⟨(H2).out.1.trans (hb.mono (H2).out.1.size), (H2).out.2.1.below hb, (H2).out.2.2.below hb⟩); clear hb)); go_ret
    exact ⟨rfl, H2.out.1⟩
  · go_enter Tryz.func7, Tryz.ntmps7; go_upto_region 1 with fail; generalize hA : World.alloc w _ = wa; obtain ⟨KA, hKA⟩ : ∃ KA, KA = w.heap.size := ⟨_, rfl⟩; have HA : Hid (Below w.heap.size w wa ∧ KeyC wa KA a0 a1 a2 a3 a4 ∧ wa.heap.size = KA + 1) := (Lib.hid (by rw [← hA, hKA]; exact ⟨(Below.refl _ _).alloc (Nat.le_refl _) _, KeyC.new w a0 a1 a2 a3 a4 _, by simp⟩)); rw [← hKA]; clear hA hKA; generalize hA : World.alloc wa _ = wb; obtain ⟨KQ, hKQ⟩ : ∃ KQ, KQ = KA + 1 := ⟨_, rfl⟩; have HB : Hid (Below w.heap.size w wb ∧ KeyC wb KA a0 a1 a2 a3 a4 ∧ KeyC wb KQ b0 b1 b2 b3 b4) := (Lib.hid (by rw [← hA, hKQ, ← HA.out.2.2]; exact ⟨HA.out.1.alloc HA.out.1.size _, HA.out.2.1.below ((Below.refl _ _).alloc (Nat.le_refl _) _), KeyC.new wa b0 b1 b2 b3 b4 _⟩)); rw [← hKQ]; clear hA hKQ; go_upto_region 4 with (first | (go_at_call 27; (with_reducible refine (first22_is vs vr _ (HE.out.below HB.out.1)).mono ?_); rintro e w1 ⟨rfl, hb⟩; have H1 : Hid (Below w.heap.size w w1 ∧ KeyC w1 KA a0 a1 a2 a3 a4 ∧ KeyC w1 KQ b0 b1 b2 b3 b4) := (Lib.hid ⟨(HB).out.1.trans (hb.mono (HB).out.1.size), (HB).out.2.1.below hb, (HB).out.2.2.below hb⟩); clear hb)); obtain ⟨q0, q1, q2, q3, q4⟩ := ofive H1.out.2.1; go_wp2_with (first | (go_at_call 38; (with_reducible refine (valid_is a0 a1 a2 a3 a4 0 hc ga _).mono ?_); rintro e w2 ⟨rfl, hb⟩; have H2 : Hid (Below w.heap.size w w2 ∧ KeyC w2 KA a0 a1 a2 a3 a4 ∧ KeyC w2 KQ b0 b1 b2 b3 b4) := (Lib.hid ⟨(H1).out.1.trans (hb.mono (H1).out.1.size), (H1).out.2.1.below hb, (H1).out.2.2.below hb⟩); clear hb; obtain ⟨p0, p1, p2, p3, p4⟩ := ofive H2.out.2.2) | (go_at_call 38; (with_reducible refine (valid_is b0 b1 b2 b3 b4 102 hd gb _).mono ?_); rintro e w3 ⟨rfl, hb⟩; have H3 : Hid (Below w.heap.size w w3 ∧ KeyC w3 KA a0 a1 a2 a3 a4 ∧ KeyC w3 KQ b0 b1 b2 b3 b4) := (Lib.hid ⟨(H2).out.1.trans (hb.mono (H2).out.1.size), (H2).out.2.1.below hb, (H2).out.2.2.below hb⟩); clear hb)); go_ret
    exact ⟨rfl, H3.out.1⟩
  · go_enter Tryz.func7, Tryz.ntmps7; go_upto_region 1 with fail; generalize hA : World.alloc w _ = wa; obtain ⟨KA, hKA⟩ : ∃ KA, KA = w.heap.size := ⟨_, rfl⟩; have HA : Hid (Below w.heap.size w wa ∧ KeyC wa KA a0 a1 a2 a3 a4 ∧ wa.heap.size = KA + 1) := (Lib.hid (by rw [← hA, hKA]; exact ⟨(Below.refl _ _).alloc (Nat.le_refl _) _, KeyC.new w a0 a1 a2 a3 a4 _, by simp⟩)); rw [← hKA]; clear hA hKA; generalize hA : World.alloc wa _ = wb; obtain ⟨KQ, hKQ⟩ : ∃ KQ, KQ = KA + 1 := ⟨_, rfl⟩; have HB : Hid (Below w.heap.size w wb ∧ KeyC wb KA a0 a1 a2 a3 a4 ∧ KeyC wb KQ b0 b1 b2 b3 b4) := (Lib.hid (by rw [← hA, hKQ, ← HA.out.2.2]; exact ⟨HA.out.1.alloc HA.out.1.size _, HA.out.2.1.below ((Below.refl _ _).alloc (Nat.le_refl _) _), KeyC.new wa b0 b1 b2 b3 b4 _⟩)); rw [← hKQ]; clear hA hKQ; go_upto_region 4 with (first | (go_at_call 27; (with_reducible refine (first22_is vs vr _ (HE.out.below HB.out.1)).mono ?_); rintro e w1 ⟨rfl, hb⟩; have H1 : Hid (Below w.heap.size w w1 ∧ KeyC w1 KA a0 a1 a2 a3 a4 ∧ KeyC w1 KQ b0 b1 b2 b3 b4) := (Lib.hid ⟨(HB).out.1.trans (hb.mono (HB).out.1.size), (HB).out.2.1.below hb, (HB).out.2.2.below hb⟩); clear hb)); obtain ⟨q0, q1, q2, q3, q4⟩ := ofive H1.out.2.1; go_wp2_with (first | (go_at_call 38; (with_reducible refine (valid_is a0 a1 a2 a3 a4 0 hc ga _).mono ?_); rintro e w2 ⟨rfl, hb⟩; have H2 : Hid (Below w.heap.size w w2 ∧ KeyC w2 KA a0 a1 a2 a3 a4 ∧ KeyC w2 KQ b0 b1 b2 b3 b4) := (Lib.hid ⟨(H1).out.1.trans (hb.mono (H1).out.1.size), (H1).out.2.1.below hb, (H1).out.2.2.below hb⟩); clear hb; obtain ⟨p0, p1, p2, p3, p4⟩ := ofive H2.out.2.2) | (go_at_call 38; (with_reducible refine (valid_is b0 b1 b2 b3 b4 103 hd gb _).mono ?_); rintro e w3 ⟨rfl, hb⟩; have H3 : Hid (Below w.heap.size w w3 ∧ KeyC w3 KA a0 a1 a2 a3 a4 ∧ KeyC w3 KQ b0 b1 b2 b3 b4) := (Lib.hid ⟨(H2).out.1.trans (hb.mono (H2).out.1.size), (H2).out.2.1.below hb, (H2).out.2.2.below hb⟩); clear hb)); go_ret
    exact ⟨rfl, H3.out.1⟩
theorem walk_ObjectJudges (x0_0 : Int) (x0_1 : Int) (x0_2 : Int) (x0_3 : Int) (x0_4 : Int) (x1_0 : Int) (x1_1 : Int) (x1_2 : Int) (x1_3 : Int) (x1_4 : Int) (w : World) (wx0_0 : (Lit.int .i64 x0_0).wf = true) (wx0_1 : (Lit.int .i64 x0_1).wf = true) (wx0_2 : (Lit.int .i64 x0_2).wf = true) (wx0_3 : (Lit.int .i64 x0_3).wf = true) (wx0_4 : (Lit.int .u32 x0_4).wf = true) (wx1_0 : (Lit.int .i64 x1_0).wf = true) (wx1_1 : (Lit.int .i64 x1_1).wf = true) (wx1_2 : (Lit.int .i64 x1_2).wf = true) (wx1_3 : (Lit.int .i64 x1_3).wf = true) (wx1_4 : (Lit.int .u32 x1_4).wf = true) (hL : laidMetH Tryz.prog Rows.objectJudgesRow.laid w) :
    Calls Tryz.prog 7 #[.agg #[.int .i64 x0_0, .int .i64 x0_1, .int .i64 x0_2, .int .i64 x0_3, .int .u32 x0_4], .agg #[.int .i64 x1_0, .int .i64 x1_1, .int .i64 x1_2, .int .i64 x1_3, .int .u32 x1_4]] w fun e w' => e = .returned (.bool true) ∧ Below w.heap.size w w' := by
  obtain ⟨vs, vr, hE⟩ := (errs2 hL ⟨_, by repeat (first | exact List.Mem.head _ | apply List.Mem.tail)⟩ ⟨_, by repeat (first | exact List.Mem.head _ | apply List.Mem.tail)⟩)
  clear hL
  have ga := fit32 wx0_4
  have gb := fit32 wx1_4
  by_cases he : codeOf x0_0 x0_1 x0_2 x0_3 x0_4 = 102 ∨ codeOf x0_0 x0_1 x0_2 x0_3 x0_4 = 103 ∨ (codeOf x0_0 x0_1 x0_2 x0_3 x0_4 = 0 ∧ (codeOf x1_0 x1_1 x1_2 x1_3 x1_4 = 102 ∨ codeOf x1_0 x1_1 x1_2 x1_3 x1_4 = 103))
  · exact judges_early _ _ _ _ _ _ _ _ _ _ _ _ (Lib.hid rfl) (Lib.hid rfl) he ga.2 gb.2 vs vr w hE
  · have h1 := code_cases x0_0 x0_1 x0_2 x0_3 x0_4
    have h2 := code_cases x1_0 x1_1 x1_2 x1_3 x1_4
    exact judges_walk _ _ _ _ _ _ _ _ _ _ (by omega) (by omega) ga gb vs vr w hE
end Go.Proofs.YtncopdhhchmpeaaGreatDoor
