/-
  slices.Index and slices.Contains over a row of numbers.
-/
import Derived.Test.YtahhnfhnlffmpaaDoorPl
namespace Go.Proofs.YtahhnfhnlffmpaaDoor
open Go.ChangeShapes Go.WideShapes Go.ChangeAt Go.RowKit
set_option linter.unusedVariables false
/-- Numbers that are read there. -/
def RN (w : World) (g d : Nat) (xs : List Int) : Prop := ∀ i, i < d → w.cell? ⟨g, i, none⟩ = some (.int .i64 (xs.getD i 0))
set_option maxRecDepth 100000 in
theorem six_no (g d c' : Nat) (xs : List Int) (v : Int) (hd : d ≤ 1000) (hno : Hid (∀ i, i < d → xs.getD i 0 ≠ v)) (w : World) (hr : RN w g d xs) :
    Calls Tryd.prog 97 #[.slice (some ⟨g, 0, none⟩) d c', .int .i64 v] w fun e w' => e = .returned (.int .i64 (-1)) ∧ w = w' := by
  have HR := Lib.hid hr
  clear hr
  go_enter Tryd.func97, Tryd.ntmps97
  go_wp2_with fail
  go_loop [8] (fun i => ∃ k : Nat, k ≤ d ∧ i = .int .i64 k) (fun i => d - (intOf i).toNat)
  case atStart => exact ⟨0, by omega, rfl⟩
  case round =>
    obtain ⟨k, hk, rfl⟩ := hrel
    by_cases hlt : k < d
    · have hc := HR.out k hlt
      have hne := hno.out k hlt
      generalize xs.getD k 0 = x at hc hne
      have hb : (v == x) = false := beq_eq_false_iff_ne.2 (Ne.symm hne)
      have k0 : (0 : Int) ≤ k := by omega
      have k1 : (k : Int) < d := by omega
      clear hne
      go_wp2_with fail
      go_round
      case rel => exact ⟨k + 1, by omega, by go_num⟩
      case measure => simp [intOf]; omega
    · obtain rfl : d = k := by omega
      have hdd : decide (d < d) = false := by simp
      go_wp2_with fail
      go_ret
      exact ⟨rfl, rfl⟩
set_option maxRecDepth 100000 in
theorem six_yes (g d c' q : Nat) (xs : List Int) (v : Int) (hd : d ≤ 1000) (hq : q < d) (hno : Hid (∀ i, i < q → xs.getD i 0 ≠ v)) (hyes : Hid (xs.getD q 0 = v)) (w : World) (hr : RN w g d xs) :
    Calls Tryd.prog 97 #[.slice (some ⟨g, 0, none⟩) d c', .int .i64 v] w fun e w' => e = .returned (.int .i64 q) ∧ w = w' := by
  have HR := Lib.hid hr
  clear hr
  go_enter Tryd.func97, Tryd.ntmps97
  go_wp2_with fail
  go_loop [8] (fun i => ∃ k : Nat, k ≤ q ∧ i = .int .i64 k) (fun i => d - (intOf i).toNat)
  case atStart => exact ⟨0, by omega, rfl⟩
  case round =>
    obtain ⟨k, hk, rfl⟩ := hrel
    have hc := HR.out k (by omega)
    have k0 : (0 : Int) ≤ k := by omega
    have k1 : (k : Int) < d := by omega
    by_cases hlt : k < q
    · have hne := hno.out k hlt
      generalize xs.getD k 0 = x at hc hne
      have hb : (v == x) = false := beq_eq_false_iff_ne.2 (Ne.symm hne)
      clear hne
      go_wp2_with fail
      go_round
      case rel => exact ⟨k + 1, by omega, by go_num⟩
      case measure => simp [intOf]; omega
    · obtain rfl : q = k := by omega
      rw [hyes.out] at hc
      have hb : (v == v) = true := beq_self_eq_true v
      go_wp2_with fail
      go_ret
      exact ⟨rfl, rfl⟩
theorem first_in (xs : List Int) (v : Int) : ∀ d, (∀ i, i < d → xs.getD i 0 ≠ v) ∨ ∃ q, q < d ∧ (∀ i, i < q → xs.getD i 0 ≠ v) ∧ xs.getD q 0 = v := by
  intro d
  induction d with
  | zero => exact .inl (fun i hi => by omega)
  | succ d ih =>
    rcases ih with h | ⟨q, h1, h2⟩
    · by_cases e : xs.getD d 0 = v
      · exact .inr ⟨d, by omega, h, e⟩
      · refine .inl (fun i hi => ?_)
        by_cases h3 : i = d
        · subst h3; exact e
        · exact h i (by omega)
    · exact .inr ⟨q, by omega, h2⟩
end Go.Proofs.YtahhnfhnlffmpaaDoor
