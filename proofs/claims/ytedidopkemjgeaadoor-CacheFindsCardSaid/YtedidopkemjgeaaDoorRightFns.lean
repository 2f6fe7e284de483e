import Derived.Test.YtedidopkemjgeaaDoorKeyval
import Derived.WalkSmall
namespace Go.Proofs.YtedidopkemjgeaaDoor
open Go.ChangeShapes Go.WideShapes Go.ChangeAt Go.RowKit
set_option linter.unusedVariables false
theorem ismem_yes (k0 k1 k2 k3 k4 : Int) (h : k0 = 2 ∨ k0 = 3) (w : World) :
    Calls Tryd.prog 108 #[(Value.agg #[.int .i64 k0, .int .i64 k1, .int .i64 k2, .int .i64 k3, .int .u32 k4])] w fun e w' => e = .returned (.bool true) ∧ Below w.heap.size w w' := by
  rcases h with rfl | rfl
  all_goals
    go_enter Tryd.func108, Tryd.ntmps108
    go_wp2
    go_ret
    exact ⟨rfl, (Below.refl _ _).alloc (Nat.le_refl _) _⟩
theorem ismem_no (k0 k1 k2 k3 k4 : Int) (h2 : ¬ k0 = 2) (h3 : ¬ k0 = 3) (w : World) :
    Calls Tryd.prog 108 #[(Value.agg #[.int .i64 k0, .int .i64 k1, .int .i64 k2, .int .i64 k3, .int .u32 k4])] w fun e w' => e = .returned (.bool false) ∧ Below w.heap.size w w' := by
  have e2 : (k0 == 2) = false := by simpa using h2
  have e3 : (k0 == 3) = false := by simpa using h3
  go_enter Tryd.func108, Tryd.ntmps108
  go_wp2
  go_ret
  exact ⟨rfl, (Below.refl _ _).alloc (Nat.le_refl _) _⟩
theorem writes_no (k0 k1 k2 k3 k4 : Int) (h2 : ¬ k0 = 2) (h3 : ¬ k0 = 3) (w : World) :
    Calls Tryd.prog 101 #[(Value.agg #[.int .i64 k0, .int .i64 k1, .int .i64 k2, .int .i64 k3, .int .u32 k4])] w fun e w' => e = .returned (.bool false) ∧ Below w.heap.size w w' := by
  go_enter Tryd.func101, Tryd.ntmps101
  go_wp2_with (first | (go_at_call 108; refine (ismem_no _ _ _ _ _ h2 h3 _).mono ?_; rintro e w' ⟨rfl, hb⟩))
  go_ret
  exact ⟨rfl, Below.trans ((Below.refl _ _).alloc (Nat.le_refl _) _) (hb.mono (by simp))⟩
theorem writes_mem (k0 k1 k2 k3 k4 : Int) (h : k0 = 2 ∨ k0 = 3) (w : World) :
    Calls Tryd.prog 101 #[(Value.agg #[.int .i64 k0, .int .i64 k1, .int .i64 k2, .int .i64 k3, .int .u32 k4])] w fun e w' => e = .returned (.bool (bits BinOp.and IntKind.i64 k3 5 == 0)) ∧ Below w.heap.size w w' := by
  go_enter Tryd.func101, Tryd.ntmps101
  go_wp2_with (first | (go_at_call 108; refine (ismem_yes _ _ _ _ _ h _).mono ?_; rintro e w' ⟨rfl, hb⟩; have hc := (bcell hb).1))
  go_ret
  exact ⟨rfl, Below.trans ((Below.refl _ _).alloc (Nat.le_refl _) _) (hb.mono (by simp))⟩
theorem same_self (a0 a1 a2 a3 a4 : Int) : Hid (sameB a0 a1 a2 a3 a4 a0 a1 a2 a3 a4 = true) := Lib.hid (by simp [sameB])
end Go.Proofs.YtedidopkemjgeaaDoor
