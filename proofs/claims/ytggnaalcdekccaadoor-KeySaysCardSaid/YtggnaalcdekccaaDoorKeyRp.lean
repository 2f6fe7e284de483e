/-
  turnkeyref1.Pack of a right key.
-/
import Derived.Test.YtggnaalcdekccaaDoorKeyPack
import Derived.Deep.QuietTactic
import Derived.BigQuiet
namespace Go.Proofs.YtggnaalcdekccaaDoor
open Go.ChangeShapes Go.WideShapes Go.ChangeAt Go.RowKit
set_option linter.unusedVariables false
theorem ret_pack2 {a b a' b' : Int} (h1 : a = a') (h2 : b = b') : Ending.returned (.tuple #[.int .u32 a, .int .u32 b]) = .returned (.tuple #[.int .u32 a', .int .u32 b']) := by rw [h1, h2]
set_option maxRecDepth 100000 in
set_option maxHeartbeats 1000000 in
theorem refpack_ok (k0 k1 k2 k3 k4 : Int) (w : World) (h : Hid (rightB k0 k1 k2 k3 k4 = true)) (g8 : 0 ≤ k4) (g9 : k4 ≤ 4294967295) :
    Calls Tryd.prog 36 #[(Value.agg #[.int .i64 k0, .int .i64 k1, .int .i64 k2, .int .i64 k3, .int .u32 k4])] w fun e w' => e = .returned (.tuple #[.int .u32 (packLo k0 k1 k2), .int .u32 (packHi k3 k4)]) ∧ Below w.heap.size w w' := by
  obtain ⟨g0, g1, g2, g3, g4, g5, g6, g7, gx, gy, gz⟩ := right_bounds h.out
  have E1 := Lib.hid (pack_lo k0 k1 k2 g0 g1 g2 g3 g4 g5)
  have E2 := Lib.hid (pack_hi k3 k4 g6 g7 g8 g9 (by omega))
  by_cases hn : k0 = 1
  · obtain ⟨rfl, rfl, rfl⟩ := gz hn
    subst hn
    clear gx gy gz
    go_enter Tryd.func36, Tryd.ntmps36
    go_wp2
    go_quiet (fail)
    go_wp2
    go_ret2
    exact ⟨ret_pack2 (by first | exact E1.out | rfl) (by simp [packHi]), below_drewN ((Below.refl _ _).alloc (Nat.le_refl _) _) _⟩
  · have hne : (k0 == 1) = false := beq_eq_false_iff_ne.2 hn
    clear gx gy gz
    go_enter Tryd.func36, Tryd.ntmps36
    go_wp2
    go_quiet (fail)
    go_wp2
    go_ret2
    exact ⟨ret_pack2 E1.out E2.out, below_drewN ((Below.refl _ _).alloc (Nat.le_refl _) _) _⟩
end Go.Proofs.YtggnaalcdekccaaDoor
