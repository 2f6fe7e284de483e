/-
  ArenaPlays: the walk.
-/
import Derived.Test.YtlefmgdfcpnifaaDoorArPq
import Derived.Test.YtlefmgdfcpnifaaDoorArLw
import Derived.Test.YtlefmgdfcpnifaaDoorSen
import Derived.Deep.DeepCutAuto
import Derived.Deep.Cut
namespace Go.Proofs.YtlefmgdfcpnifaaDoor
open Go.ChangeShapes Go.WideShapes Go.ChangeAt Go.RowKit
set_option linter.unusedVariables false
theorem tmod_bd (a m : Int) (hm : 0 < m) : -m < a.tmod m ∧ a.tmod m < m := by
  have e0 := Int.emod_nonneg a (show m ≠ 0 by omega)
  have e1 := Int.emod_lt_of_pos a hm
  have ht := Int.tmod_eq_emod (a := a) (b := m)
  have hab : (m.natAbs : Int) = m := by omega
  by_cases h : 0 ≤ a ∨ m ∣ a
  · rw [if_pos h] at ht
    omega
  · rw [if_neg h] at ht
    have : a % m ≠ 0 := fun e => h (.inr (Int.dvd_of_emod_eq_zero e))
    omega
theorem tdiv_bd (a : Int) (h1 : -9223372036854775808 ≤ a) (h2 : a ≤ 9223372036854775807) : -9223372036854775808 ≤ a.tdiv 2 ∧ a.tdiv 2 ≤ 9223372036854775807 := by
  have := Int.tmod_add_mul_tdiv a 2
  have := tmod_bd a 2 (by decide)
  omega
set_option maxRecDepth 100000 in
theorem plays_range (n ask : Int) (a : Option Addr) (len cap : Nat) (hn : ¬ (1 ≤ n ∧ n ≤ 256)) (w : World) (A : Nat → Addr) (hS : Sen A w) :
    Calls Tryd.prog 3 #[.int .i64 n, .slice a len cap, .int .i64 ask] w fun e w' => e = .returned (.bool true) ∧ Below w.heap.size w w' := by
  have HS := Lib.hid hS
  have HN := Lib.hid hn
  clear hS hn
  by_cases h1 : n < 1
  all_goals
    have d1 : decide (n < 1) = decide (n < 1) := rfl
    first
      | have d2 : decide (n < 1) = true := decide_eq_true h1
      | (have d2 : decide (n < 1) = false := decide_eq_false h1; have d3 : decide (256 < n) = true := decide_eq_true (by have := HN.out; omega))
    clear d1 h1
    go_enter Tryd.func3, Tryd.ntmps3
    go_wp2_with (first
      | (go_at_call 14; refine (afirst_is _).mono ?_; rintro e w1 ⟨rfl, hb1⟩; have HB1 := Lib.hid hb1; clear hb1)
      | (go_at_call 15; (with_reducible refine (anew_no _ HN.out _ _ ((HS.out.below HB1.out).c2)).mono ?_); rintro e w2 ⟨rfl, hb⟩; have HB2 := Lib.hid (HB1.out.trans (hb.mono HB1.out.size)); clear hb)
      | (go_at_call 16; (with_reducible refine (is_sen A 2 103 (by decide) (Lib.hid (by decide)) _ (HS.out.below HB2.out)).mono ?_); rintro e w3 ⟨rfl, hb⟩; have HB3 := Lib.hid (HB2.out.trans (hb.mono HB2.out.size)); clear hb))
    go_ret
    exact ⟨rfl, HB3.out⟩
set_option maxRecDepth 100000 in
theorem plays_big (n : Nat) (ask : Int) (a : Option Addr) (len cap : Nat) (h1 : 1 ≤ n) (h2 : n ≤ 256) (hl : 100 < len) (hm : len ≤ 9223372036854775807) (w : World) :
    Calls Tryd.prog 3 #[.int .i64 n, .slice a len cap, .int .i64 ask] w fun e w' => e = .returned (.bool true) ∧ Below w.heap.size w w' := by
  have d1 : decide ((n : Int) < 1) = false := by simp; omega
  have d2 : decide ((256 : Int) < (n : Int)) = false := by simp; omega
  have hd : decide ((100 : Int) < (len : Int)) = true := by simp; omega
  go_enter Tryd.func3, Tryd.ntmps3
  go_wp2_with (first
    | (go_at_call 14; refine (afirst_is _).mono ?_; rintro e w1 ⟨rfl, hb1⟩; have HB1 := Lib.hid hb1; clear hb1)
    | (go_at_call 15; (with_reducible refine (anew_at _ n (Lib.hid rfl) h1 h2 _).mono ?_); rintro e w3 ⟨p, B, rfl, hA, hb⟩; have HB2 := Lib.hid (HB1.out.trans (hb.mono HB1.out.size)); clear hA hb))
  go_ret
  exact ⟨rfl, HB2.out⟩
end Go.Proofs.YtlefmgdfcpnifaaDoor
