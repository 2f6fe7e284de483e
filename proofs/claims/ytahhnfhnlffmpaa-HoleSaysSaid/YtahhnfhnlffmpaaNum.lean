/-
  turnkeyworld.Number, for seats without arenas.
-/
import Derived.Test.YtahhnfhnlffmpaaKeyval
namespace Go.Proofs.Ytahhnfhnlffmpaa
open Go.ChangeShapes Go.WideShapes Go.ChangeAt Go.RowKit
set_option linter.unusedVariables false
theorem hret_i64 {a b : Int} (h : a = b) : Ending.returned (.int .i64 a) = .returned (.int .i64 b) := by rw [h]
theorem hnumber_is (n m r : Int) (hm0 : 0 < m) (hm : m ≤ 1000) (h1 : -9223372036854775808 ≤ n) (h2 : n ≤ 9223372036854775807) (hr : Hid (n % m = r)) (w : World) :
    Calls Try.prog 16 #[.int .i64 n, .int .i64 m] w fun e w' => e = .returned (.int .i64 r) ∧ w = w' := by
  have e0 := Int.emod_nonneg n (show m ≠ 0 by omega)
  have e1 := Int.emod_lt_of_pos n hm0
  by_cases hn : 0 ≤ n
  · have hd : decide (n % m < 0) = false := decide_eq_false (by omega)
    have hm1 : 1 ≤ m := by omega
    go_enter Try.func16, Try.ntmps16
    go_wp2
    go_ret
    exact ⟨hret_i64 hr.out, rfl⟩
  · have ht := Int.tmod_eq_emod (a := n) (b := m)
    have hm1 : 1 ≤ m := by omega
    by_cases hdv : m ∣ n
    · rw [if_pos (Or.inr hdv)] at ht
      have hz := Int.emod_eq_zero_of_dvd hdv
      have ht2 : n.tmod m = 0 := by omega
      have hr0 : Hid (0 = r) := Lib.hid (by rw [← hr.out, hz])
      clear ht hz hdv e0 e1
      go_enter Try.func16, Try.ntmps16
      go_wp2
      go_ret
      exact ⟨hret_i64 hr0.out, rfl⟩
    · rw [if_neg (by omega)] at ht
      have hnz : n % m ≠ 0 := fun e => hdv (Int.dvd_of_emod_eq_zero e)
      obtain ⟨t, ht2⟩ : ∃ t, n.tmod m = t := ⟨_, rfl⟩
      have hab : (m.natAbs : Int) = m := by omega
      have hlt : t < 0 := by omega
      have hge : -1000 ≤ t := by omega
      have hr0 : Hid (t + m = r) := Lib.hid (by rw [← hr.out]; omega)
      have hd : decide (t < 0) = true := decide_eq_true hlt
      clear ht hdv e0 e1 hnz hab
      go_enter Try.func16, Try.ntmps16
      go_wp2
      go_ret
      exact ⟨hret_i64 hr0.out, rfl⟩
theorem hnumber_nat (n m : Int) (M : Nat) (hm : m = (M : Int)) (hm0 : 0 < M) (hm1 : M ≤ 1000) (h1 : -9223372036854775808 ≤ n) (h2 : n ≤ 9223372036854775807) : ∃ r : Nat, r < M ∧ ∀ w, Calls Try.prog 16 #[.int .i64 n, .int .i64 m] w fun e w' => e = .returned (.int .i64 r) ∧ w = w' := by
  have e0 := Int.emod_nonneg n (show m ≠ 0 by omega)
  have e1 := Int.emod_lt_of_pos n (show 0 < m by omega)
  refine ⟨(n % m).toNat, by omega, fun w => ?_⟩
  exact hnumber_is n m _ (by omega) (by omega) h1 h2 (Lib.hid (by omega)) w
theorem hi64_fit {a : Int} (h : (Lit.int .i64 a).wf = true) : -9223372036854775808 ≤ a ∧ a ≤ 9223372036854775807 := by simpa [Lit.wf, IntKind.min, IntKind.max, IntKind.signed, IntKind.bits] using h
end Go.Proofs.Ytahhnfhnlffmpaa
