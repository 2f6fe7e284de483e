/-
  turnkeyref1.KindName, KeyText.
-/
import Derived.Test.YtggnaalcdekccaaDoorKeyTt
namespace Go.Proofs.YtggnaalcdekccaaDoor
open Go.ChangeShapes Go.WideShapes Go.ChangeAt Go.RowKit
set_option linter.unusedVariables false
set_option maxRecDepth 100000 in
theorem refname_in (j : Nat) (hj : j < 15) (w : World) : Calls Tryd.prog 35 #[.int .i64 j] w fun e w' => e = .returned (.string (nmS j)) ∧ Below w.heap.size w w' := by
  have k0 : (0 : Int) ≤ (j : Int) := by omega
  have k1 : (j : Int) < 15 := by omega
  have d0 : decide ((j : Int) < 0) = false := by simp
  have d1 : decide ((15 : Int) ≤ (j : Int)) = false := by simp; omega
  go_enter Tryd.func35, Tryd.ntmps35
  go_wp2_with fail
  go_ret
  refine ⟨?_, (Below.refl _ _).alloc (Nat.le_refl _) _⟩
  clear d0 d1 k0 k1
  obtain rfl | rfl | rfl | rfl | rfl | rfl | rfl | rfl | rfl | rfl | rfl | rfl | rfl | rfl | rfl : j = 0 ∨ j = 1 ∨ j = 2 ∨ j = 3 ∨ j = 4 ∨ j = 5 ∨ j = 6 ∨ j = 7 ∨ j = 8 ∨ j = 9 ∨ j = 10 ∨ j = 11 ∨ j = 12 ∨ j = 13 ∨ j = 14 := by omega
  all_goals rfl
set_option maxRecDepth 100000 in
theorem refname_out (k : Int) (hk : ¬ (0 ≤ k ∧ k ≤ 14)) (w : World) : Calls Tryd.prog 35 #[.int .i64 k] w fun e w' => e = .returned (.string ⟨#[]⟩) ∧ Below w.heap.size w w' := by
  by_cases h0 : k < 0
  · have d0 : decide (k < 0) = true := by simp; omega
    go_enter Tryd.func35, Tryd.ntmps35
    go_wp2_with fail
    go_ret
    exact ⟨rfl, (Below.refl _ _).alloc (Nat.le_refl _) _⟩
  · have d0 : decide (k < 0) = false := by simp; omega
    have d1 : decide ((15 : Int) ≤ k) = true := by simp; omega
    go_enter Tryd.func35, Tryd.ntmps35
    go_wp2_with fail
    go_ret
    exact ⟨rfl, (Below.refl _ _).alloc (Nat.le_refl _) _⟩
theorem refname_any (k : Int) (w : World) : Calls Tryd.prog 35 #[.int .i64 k] w fun e w' => e = .returned (.string (nmT k)) ∧ Below w.heap.size w w' := by
  by_cases hk : 0 ≤ k ∧ k ≤ 14
  · obtain ⟨j, rfl⟩ : ∃ j : Nat, k = j := ⟨k.toNat, by omega⟩
    have e : nmT (j : Int) = nmS j := by unfold nmT nmS; rw [if_pos hk]
    rw [e]
    exact refname_in j (by omega) w
  · have e : nmT k = ⟨#[]⟩ := by unfold nmT; rw [if_neg hk]
    rw [e]
    exact refname_out k hk w
end Go.Proofs.YtggnaalcdekccaaDoor
