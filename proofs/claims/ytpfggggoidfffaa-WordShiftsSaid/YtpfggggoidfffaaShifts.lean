import Derived.Test.YtpfggggoidfffaaRules
namespace Go.Proofs.Ytpfggggoidfffaa
open Go.ChangeShapes Go.WideShapes Go.ChangeAt Go.RowKit
set_option linter.unusedVariables false

theorem shifts_big (a n : Int) (fa : Fit a) (fn : Fit n) (f0 : Fit 0) (hx : Hid (doV 8 a n = 0)) (hy : Hid (doV 9 0 n = 0)) (hz : Hid (doV 9 a n = 0)) (hn : 32 ≤ n) (w : World) :
    Calls Try.prog 5 #[.int .u32 a, .int .u32 n] w fun e w' => e = .returned (.bool true) ∧ w = w' := by
  go_enter Try.func5, Try.ntmps5
  go_wp2_with (first | (go_at_call 6; refine (first_any _).mono ?_; rintro e w' ⟨rfl, rfl⟩) | (go_at_call 7; with_reducible refine (do_at hx rfl (by assumption) (by assumption) _).mono ?_; rintro e w' ⟨rfl, rfl⟩) | (go_at_call 7; with_reducible refine (do_at hy rfl (by assumption) (by assumption) _).mono ?_; rintro e w' ⟨rfl, rfl⟩) | (go_at_call 7; with_reducible refine (do_at hz rfl (by assumption) (by assumption) _).mono ?_; rintro e w' ⟨rfl, rfl⟩))
  go_ret
  exact ⟨rfl, rfl⟩

theorem shifts_zero (a : Int) (fa : Fit a) (fn : Fit 0) (ha0 : 0 ≤ a) (ha1 : a ≤ 4294967295) (hx : Hid (doV 8 a 0 = a)) (hy : Hid (doV 9 a 0 = a)) (w : World) :
    Calls Try.prog 5 #[.int .u32 a, .int .u32 0] w fun e w' => e = .returned (.bool true) ∧ w = w' := by
  go_enter Try.func5, Try.ntmps5
  go_wp2_with (first | (go_at_call 6; refine (first_any _).mono ?_; rintro e w' ⟨rfl, rfl⟩) | (go_at_call 7; with_reducible refine (do_at hx rfl (by assumption) (by assumption) _).mono ?_; rintro e w' ⟨rfl, rfl⟩) | (go_at_call 7; with_reducible refine (do_at hy rfl (by assumption) (by assumption) _).mono ?_; rintro e w' ⟨rfl, rfl⟩))
  go_ret
  exact ⟨rfl, rfl⟩

theorem shifts_mid (a n x y z p q : Int) (fa : Fit a) (fn : Fit n) (fx : Fit x) (ha0 : 0 ≤ a) (ha1 : a ≤ 4294967295) (hn0 : 0 < n) (hn1 : n < 32)
    (hx : Hid (doV 8 a n = x)) (hy : Hid (doV 9 x n = y)) (hz : Hid (doV 9 a n = z)) (w : World)
    (hp : 2 ^ (32 - n).toNat % 4294967296 = p) (hq : 2 ^ n.toNat % 4294967296 = q) (hp0 : 0 < p) (hq0 : 0 < q)
    (h1 : (y == a % p) = true) (h2 : (z == a.tdiv q % 4294967296) = true) (h2' : (z == a / q) = true) (h3 : (x == a * q % 4294967296) = true) :
    Calls Try.prog 5 #[.int .u32 a, .int .u32 n] w fun e w' => e = .returned (.bool true) ∧ w = w' := by
  go_enter Try.func5, Try.ntmps5
  go_wp2_with (first | (go_at_call 6; refine (first_any _).mono ?_; rintro e w' ⟨rfl, rfl⟩) | (go_at_call 7; with_reducible refine (do_at hx rfl (by assumption) (by assumption) _).mono ?_; rintro e w' ⟨rfl, rfl⟩) | (go_at_call 7; with_reducible refine (do_at hy rfl (by assumption) (by assumption) _).mono ?_; rintro e w' ⟨rfl, rfl⟩) | (go_at_call 7; with_reducible refine (do_at hz rfl (by assumption) (by assumption) _).mono ?_; rintro e w' ⟨rfl, rfl⟩))
  go_ret
  exact ⟨rfl, rfl⟩

theorem mul_emod_mul_r (a p q : Int) (hq : 0 < q) : a * q % (p * q) = a % p * q := by
  rw [Int.mul_comm a q, Int.mul_comm p q, Int.mul_emod_mul_of_pos _ _ hq, Int.mul_comm]
theorem shifts_any (a n : Int) (fa : Fit a) (fn : Fit n) (w : World) :
    Calls Try.prog 5 #[.int .u32 a, .int .u32 n] w fun e w' => e = .returned (.bool true) ∧ w = w' := by
  have f0 : Fit 0 := ⟨by decide, by decide⟩
  have ha0 := fa.lo
  have ha1 := fa.hi
  have hn0 := fn.lo
  have e8 : ∀ a n, doV 8 a n = a * 2 ^ min n.toNat 32 % 4294967296 := fun _ _ => rfl
  have e9 : ∀ a n, doV 9 a n = a / 2 ^ min n.toNat 32 := fun _ _ => rfl
  by_cases hb : 32 ≤ n
  · have em : min n.toNat 32 = 32 := by omega
    exact shifts_big a n fa fn f0 (Lib.hid (by rw [e8, em]; omega)) (Lib.hid (by rw [e9, em]; omega)) (Lib.hid (by rw [e9, em]; omega)) hb w
  by_cases hz : n = 0
  · subst hz
    exact shifts_zero a fa f0 ha0 ha1 (Lib.hid (by rw [e8]; simp; omega)) (Lib.hid (by rw [e9]; simp)) w
  have em : min n.toNat 32 = n.toNat := by omega
  obtain ⟨N, rfl⟩ : ∃ N : Nat, n = (N : Int) := ⟨n.toNat, by omega⟩
  have e32 : (32 - (N : Int)).toNat = 32 - N := by omega
  have hpq : (2 : Int) ^ (32 - N) * 2 ^ N = 4294967296 := by rw [← Int.pow_add, Nat.sub_add_cancel (by omega)]; rfl
  have hp0 : 0 < (2 : Int) ^ (32 - N) := Int.pow_pos (by decide)
  have hq0 : 0 < (2 : Int) ^ N := Int.pow_pos (by decide)
  have hq1 : 1 < (2 : Int) ^ N := by
    have : (2 : Nat) ^ 1 ≤ 2 ^ N := Nat.pow_le_pow_right (by decide) (by omega)
    have h2 : ((2 ^ N : Nat) : Int) = (2 : Int) ^ N := by simp
    omega
  have hp1 : 1 < (2 : Int) ^ (32 - N) := by
    have : (2 : Nat) ^ 1 ≤ 2 ^ (32 - N) := Nat.pow_le_pow_right (by decide) (by omega)
    have h2 : ((2 ^ (32 - N) : Nat) : Int) = (2 : Int) ^ (32 - N) := by simp
    omega
  simp only [Int.toNat_natCast] at em
  have hpl : (2 : Int) ^ (32 - N) < 4294967296 := by
    rw [← hpq]; have := Int.mul_lt_mul_of_pos_left hq1 hp0; omega
  have hql : (2 : Int) ^ N < 4294967296 := by
    rw [← hpq]; have := Int.mul_lt_mul_of_pos_right hp1 hq0; omega
  generalize hP : (2 : Int) ^ (32 - N) = p at *
  generalize hQ : (2 : Int) ^ N = q at *
  have hx : doV 8 a N = a * q % 4294967296 := by rw [e8, Int.toNat_natCast, em, hQ]
  have hy : doV 9 (a * q % 4294967296) N = a % p := by
    rw [e9, Int.toNat_natCast, em, hQ, ← hpq, mul_emod_mul_r a p q hq0, Int.mul_ediv_cancel _ (by omega)]
  have hz' : doV 9 a N = a / q := by rw [e9, Int.toNat_natCast, em, hQ]
  have hdl : a / q ≤ a := Int.ediv_le_self _ ha0
  have hd0 : 0 ≤ a / q := Int.ediv_nonneg ha0 (by omega)
  refine shifts_mid a N (a * q % 4294967296) (a % p) (a / q) p q fa fn ⟨by omega, by omega⟩ ha0 ha1 (by omega) (by omega) (Lib.hid hx) (Lib.hid hy) (Lib.hid hz') w
    (by rw [e32, hP]; exact Int.emod_eq_of_lt (by omega) hpl) (by rw [Int.toNat_natCast, hQ]; exact Int.emod_eq_of_lt (by omega) hql) hp0 hq0 (by simp) ?_ (by simp) (by simp)
  rw [Int.tdiv_eq_ediv_of_nonneg ha0, Int.emod_eq_of_lt hd0 (by omega)]; simp
end Go.Proofs.Ytpfggggoidfffaa
