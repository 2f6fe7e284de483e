import Derived.Test.YtncopdhhchmpeaaGreatDoorKeyval
namespace Go.Proofs.YtncopdhhchmpeaaGreatDoor
open Go.ChangeShapes Go.WideShapes Go.ChangeAt Go.RowKit
set_option linter.unusedVariables false
/-- The program's own within: two tests, no memory. -/
theorem kwithin_yes (n h : Int) (h1 : 0 ≤ n) (h2 : n ≤ h) (w : World) : Calls Tryz.prog 99 #[.int .i64 n, .int .i64 h] w fun e w' => e = .returned (.bool true) ∧ w = w' := by
  have d1 : decide (n < 0) = false := by rw [decide_eq_false_iff_not]; omega
  have d2 : decide (0 ≤ n) = true := by rw [decide_eq_true_iff]; omega
  have d3 : decide (n ≤ h) = true := by rw [decide_eq_true_iff]; omega
  have d4 : decide (h < n) = false := by rw [decide_eq_false_iff_not]; omega
  go_enter Tryz.func99, Tryz.ntmps99
  go_wp2
  go_ret
  exact ⟨rfl, rfl⟩
theorem kwithin_no1 (n h : Int) (h1 : n < 0) (w : World) : Calls Tryz.prog 99 #[.int .i64 n, .int .i64 h] w fun e w' => e = .returned (.bool false) ∧ w = w' := by
  have d1 : decide (n < 0) = true := by rw [decide_eq_true_iff]; omega
  have d2 : decide (0 ≤ n) = false := by rw [decide_eq_false_iff_not]; omega
  go_enter Tryz.func99, Tryz.ntmps99
  go_wp2
  go_ret
  exact ⟨rfl, rfl⟩
theorem kwithin_no2 (n h : Int) (h1 : 0 ≤ n) (h2 : h < n) (w : World) : Calls Tryz.prog 99 #[.int .i64 n, .int .i64 h] w fun e w' => e = .returned (.bool false) ∧ w = w' := by
  have d1 : decide (n < 0) = false := by rw [decide_eq_false_iff_not]; omega
  have d2 : decide (0 ≤ n) = true := by rw [decide_eq_true_iff]; omega
  have d3 : decide (n ≤ h) = false := by rw [decide_eq_false_iff_not]; omega
  have d4 : decide (h < n) = true := by rw [decide_eq_true_iff]; omega
  go_enter Tryz.func99, Tryz.ntmps99
  go_wp2
  go_ret
  exact ⟨rfl, rfl⟩
theorem kmay_yes (k : Int) (h : k = 2 ∨ k = 3) (w : World) : Calls Tryz.prog 101 #[.int .i64 k] w fun e w' => e = .returned (.bool true) ∧ w = w' := by
  rcases h with rfl | rfl
  all_goals
    go_enter Tryz.func101, Tryz.ntmps101
    go_wp2
    go_ret
    exact ⟨rfl, rfl⟩
theorem kmay_no (k : Int) (h2 : ¬ k = 2) (h3 : ¬ k = 3) (w : World) : Calls Tryz.prog 101 #[.int .i64 k] w fun e w' => e = .returned (.bool false) ∧ w = w' := by
  have b2 : (k == 2) = false := by simp [h2]
  have b3 : (k == 3) = false := by simp [h3]
  go_enter Tryz.func101, Tryz.ntmps101
  go_wp2
  go_ret
  exact ⟨rfl, rfl⟩
def placesOf (k : Int) : Int := if k = 2 ∨ k = 3 then 256 else if k = 8 then 64 else if k = 4 ∨ k = 5 ∨ k = 6 ∨ k = 7 ∨ k = 9 ∨ k = 10 then 32 else 0
theorem kplaces_any (k : Int) (w : World) : Calls Tryz.prog 100 #[.int .i64 k] w fun e w' => e = .returned (.int .i64 (placesOf k)) ∧ w = w' := by
  by_cases h : k = 2 ∨ k = 3 ∨ k = 4 ∨ k = 5 ∨ k = 6 ∨ k = 7 ∨ k = 8 ∨ k = 9 ∨ k = 10
  · rcases h with rfl | rfl | rfl | rfl | rfl | rfl | rfl | rfl | rfl
    all_goals
      go_enter Tryz.func100, Tryz.ntmps100
      go_wp2
      go_ret
      exact ⟨rfl, rfl⟩
  · have h2 : ¬ k = 2 := by omega
    have h3 : ¬ k = 3 := by omega
    have h4 : ¬ k = 4 := by omega
    have h5 : ¬ k = 5 := by omega
    have h6 : ¬ k = 6 := by omega
    have h7 : ¬ k = 7 := by omega
    have h8 : ¬ k = 8 := by omega
    have h9 : ¬ k = 9 := by omega
    have h10 : ¬ k = 10 := by omega
    have e : placesOf k = 0 := by simp [placesOf, h2, h3, h4, h5, h6, h7, h8, h9, h10]
    rw [e]
    clear h e
    go_enter Tryz.func100, Tryz.ntmps100
    go_wp2
    go_ret
    exact ⟨rfl, rfl⟩
def dataMost (k : Int) : Int := if k = 1 then 4294967295 else if k = 2 then 4 else if k = 5 ∨ k = 6 then 536870911 else 0
theorem kmaxdata_any (k : Int) (w : World) : Calls Tryz.prog 102 #[.int .i64 k] w fun e w' => e = .returned (.int .u32 (dataMost k)) ∧ w = w' := by
  by_cases h : k = 1 ∨ k = 2 ∨ k = 5 ∨ k = 6
  · rcases h with rfl | rfl | rfl | rfl
    all_goals
      go_enter Tryz.func102, Tryz.ntmps102
      go_wp2
      go_ret
      exact ⟨rfl, rfl⟩
  · have h1 : ¬ k = 1 := by omega
    have h2 : ¬ k = 2 := by omega
    have h5 : ¬ k = 5 := by omega
    have h6 : ¬ k = 6 := by omega
    have e : dataMost k = 0 := by simp [dataMost, h1, h2, h5, h6]
    rw [e]
    clear h e
    go_enter Tryz.func102, Tryz.ntmps102
    go_wp2
    go_ret
    exact ⟨rfl, rfl⟩
end Go.Proofs.YtncopdhhchmpeaaGreatDoor
