import Derived.Test.YtggnaalcdekccabKeyval
import Derived.WalkSmall
namespace Go.Proofs.Ytggnaalcdekccab
open Go.ChangeShapes Go.WideShapes Go.ChangeAt Go.RowKit
set_option linter.unusedVariables false
theorem ismem_yes (k0 k1 k2 k3 k4 : Int) (h : k0 = 2 ∨ k0 = 3) (w : World) :
    Calls Try.prog 26 #[(Value.agg #[.int .i64 k0, .int .i64 k1, .int .i64 k2, .int .i64 k3, .int .u32 k4])] w fun e w' => e = .returned (.bool true) ∧ Below w.heap.size w w' := by
  rcases h with rfl | rfl
  all_goals
    go_enter Try.func26, Try.ntmps26
    go_wp2
    go_ret
    exact ⟨rfl, (Below.refl _ _).alloc (Nat.le_refl _) _⟩
theorem ismem_no (k0 k1 k2 k3 k4 : Int) (h2 : ¬ k0 = 2) (h3 : ¬ k0 = 3) (w : World) :
    Calls Try.prog 26 #[(Value.agg #[.int .i64 k0, .int .i64 k1, .int .i64 k2, .int .i64 k3, .int .u32 k4])] w fun e w' => e = .returned (.bool false) ∧ Below w.heap.size w w' := by
  have e2 : (k0 == 2) = false := by simpa using h2
  have e3 : (k0 == 3) = false := by simpa using h3
  go_enter Try.func26, Try.ntmps26
  go_wp2
  go_ret
  exact ⟨rfl, (Below.refl _ _).alloc (Nat.le_refl _) _⟩
theorem same_is (a0 a1 a2 a3 a4 : Int) (b0 b1 b2 b3 b4 : Int) (t : Bool) (h : Hid (sameB a0 a1 a2 a3 a4 b0 b1 b2 b3 b4 = t)) (w : World) :
    Calls Try.prog 11 #[(Value.agg #[.int .i64 a0, .int .i64 a1, .int .i64 a2, .int .i64 a3, .int .u32 a4]), (Value.agg #[.int .i64 b0, .int .i64 b1, .int .i64 b2, .int .i64 b3, .int .u32 b4])] w fun e w' => e = .returned (.bool t) ∧ Below w.heap.size w w' := by
  rw [← h.out]; exact samekey_any a0 a1 a2 a3 a4 b0 b1 b2 b3 b4 w
theorem same_self (a0 a1 a2 a3 a4 : Int) : Hid (sameB a0 a1 a2 a3 a4 a0 a1 a2 a3 a4 = true) := Lib.hid (by simp [sameB])
theorem first_any (w : World) : Calls Try.prog 8 #[] w fun e w' => e = .returned (.bool true) ∧ Below w.heap.size w w' := by
  have h5 : Hid (Wk [5, 1, 0, 0, 0] [0, 0, 0, 0, 0]) := Lib.hid (.inr (.inr ⟨by decide, rfl⟩))
  have h1 : Hid (Wk [1, 0, 0, 0, 9] [1, 0, 0, 0, 9]) := Lib.hid (.inr (.inl ⟨by decide, rfl⟩))
  go_enter Try.func8, Try.ntmps8
  go_wp2_with (first
    | (go_at_call 23; refine (weaken_any 5 1 0 0 0 0 0 0 0 0 h5 _).mono ?_; rintro e w1 ⟨rfl, hb1⟩)
    | (go_at_call 11; refine (same_is _ _ _ _ _ _ _ _ _ _ _ (same_self 0 0 0 0 0) _).mono ?_; rintro e w2 ⟨rfl, hb2⟩)
    | (go_at_call 24; refine (sensory_yes 1 0 0 0 9 h1 _).mono ?_; rintro e w3 ⟨rfl, hb3⟩))
  go_ret
  exact ⟨rfl, hb1.trans ((hb2.mono hb1.size).trans (hb3.mono (Nat.le_trans hb1.size hb2.size)))⟩
end Go.Proofs.Ytggnaalcdekccab
