import Derived.Test.YtncopdhhchmpeaaGreatDoorKeyValid
namespace Go.Proofs.YtncopdhhchmpeaaGreatDoor
open Go.ChangeShapes Go.WideShapes Go.ChangeAt Go.RowKit
set_option linter.unusedVariables false
theorem kwithin_out (n h : Int) (hn : Hid (¬ (0 ≤ n ∧ n ≤ h))) (w : World) : Calls Tryz.prog 99 #[.int .i64 n, .int .i64 h] w fun e w' => e = .returned (.bool false) ∧ w = w' := by
  by_cases h1 : n < 0
  · exact kwithin_no1 n h h1 w
  · have h2 : h < n := by have := hn.out; omega
    exact kwithin_no2 n h (by omega) h2 w
/-- No kind: what lies in the variable ErrShape. -/
theorem kvalid_shape (k0 k1 k2 k3 k4 : Int) (v : Value) (hk : Hid (¬ (0 ≤ k0 ∧ k0 ≤ 14))) (w : World) (hl : 6 < w.heap.size) (hv : w.cell? ⟨6, 0, none⟩ = some v) :
    Calls Tryz.prog 70 #[(Value.agg #[.int .i64 k0, .int .i64 k1, .int .i64 k2, .int .i64 k3, .int .u32 k4])] w fun e w' => e = .returned v ∧ Below w.heap.size w w' := by
  have n0 : (w.alloc (.cells #[.int .i64 k0, .int .i64 k1, .int .i64 k2, .int .i64 k3, .int .u32 k4] 42)).cell? ⟨6, 0, none⟩ = some v := (World.cell?_alloc_lt w _ ⟨6, 0, none⟩ hl).trans hv
  go_enter Tryz.func70, Tryz.ntmps70
  go_wp2_with (first
    | (go_at_call 99; (with_reducible refine (kwithin_out _ _ hk _).mono ?_); rintro e w1 ⟨rfl, rfl⟩))
  go_ret
  exact ⟨rfl, (Below.refl _ _).alloc (Nat.le_refl _) _⟩
end Go.Proofs.YtncopdhhchmpeaaGreatDoor
