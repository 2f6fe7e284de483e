import Derived.Test.YtpfggggoidfffaaDo
import Derived.Test.YtpfggggoidfffaaBits
namespace Go.Proofs.Ytpfggggoidfffaa
open Go.ChangeShapes Go.WideShapes Go.ChangeAt Go.RowKit
set_option linter.unusedVariables false

theorem do_at {op a b x : Int} (h : Hid (doV op a b = x)) (t : doB op = true) (ha : Fit a) (hb : Fit b) (w : World) : Calls Try.prog 7 #[.int .i64 op, .int .u32 a, .int .u32 b] w fun e w' => e = .returned (.tuple #[.int .u32 x, .bool true]) ∧ w = w' := by
  refine (do_any op a b ha hb w).mono fun e w' h' => ?_
  unfold DoPost at h'
  rw [h.out, t] at h'
  exact h'

set_option maxHeartbeats 400000 in
theorem walk1 (a b d q m l g e x y z : Int) (fa : Fit a) (fb : Fit b) (ha0 : 0 ≤ a) (ha1 : a ≤ 4294967295) (hb0 : 0 ≤ b) (hb1 : b ≤ 4294967295)
    (hd : Hid (doV 1 a b = d)) (hq : Hid (doV 3 a b = q)) (hm : Hid (doV 4 a b = m)) (hl : Hid (doV 10 a b = l)) (hg : Hid (doV 10 b a = g))
    (he : Hid (doV 11 a b = e)) (hx : Hid (doV 7 a b = x)) (hy : Hid (doV 5 a b = y)) (hz : Hid (doV 6 a b = z)) (hb : 0 < b) (w : World)
    (h1 : 0 ≤ q * b) (h2 : q * b + m ≤ a) (h3 : a ≤ q * b + m) (h4 : 0 ≤ m) (h5 : m < b) (h6 : ((d + b) % 4294967296 == a) = true)
    (h7 : 0 ≤ x) (h8 : 0 ≤ y) (h9 : x + y ≤ z) (h10 : z ≤ x + y) (h11 : z ≤ 4294967295)
    (hc : (l = 1 ∧ g = 0 ∧ e = 0 ∧ a < b ∧ (a == b) = false) ∨ (l = 0 ∧ g = 1 ∧ e = 0 ∧ b < a ∧ (a == b) = false) ∨ (l = 0 ∧ g = 0 ∧ e = 1 ∧ a = b)) :
    Calls Try.prog 4 #[.int .u32 a, .int .u32 b] w fun e w' => e = .returned (.bool true) ∧ w = w' := by
  have hbz : (b == 0) = false := by simp; omega
  rcases hc with ⟨rfl, rfl, rfl, hlt, hne⟩ | ⟨rfl, rfl, rfl, hlt, hne⟩ | ⟨rfl, rfl, rfl, rfl⟩
  all_goals
    go_enter Try.func4, Try.ntmps4
    go_wp2_with (first | (go_at_call 6; refine (first_any _).mono ?_; rintro e w' ⟨rfl, rfl⟩) | (go_at_call 7; with_reducible refine (do_at hd rfl (by assumption) (by assumption) _).mono ?_; rintro e w' ⟨rfl, rfl⟩) | (go_at_call 7; with_reducible refine (do_at hq rfl (by assumption) (by assumption) _).mono ?_; rintro e w' ⟨rfl, rfl⟩) | (go_at_call 7; with_reducible refine (do_at hm rfl (by assumption) (by assumption) _).mono ?_; rintro e w' ⟨rfl, rfl⟩) | (go_at_call 7; with_reducible refine (do_at hl rfl (by assumption) (by assumption) _).mono ?_; rintro e w' ⟨rfl, rfl⟩) | (go_at_call 7; with_reducible refine (do_at hg rfl (by assumption) (by assumption) _).mono ?_; rintro e w' ⟨rfl, rfl⟩) | (go_at_call 7; with_reducible refine (do_at he rfl (by assumption) (by assumption) _).mono ?_; rintro e w' ⟨rfl, rfl⟩) | (go_at_call 7; with_reducible refine (do_at hx rfl (by assumption) (by assumption) _).mono ?_; rintro e w' ⟨rfl, rfl⟩) | (go_at_call 7; with_reducible refine (do_at hy rfl (by assumption) (by assumption) _).mono ?_; rintro e w' ⟨rfl, rfl⟩) | (go_at_call 7; with_reducible refine (do_at hz rfl (by assumption) (by assumption) _).mono ?_; rintro e w' ⟨rfl, rfl⟩))
    go_ret
    exact ⟨rfl, rfl⟩
set_option maxHeartbeats 400000 in
theorem walk0 (a d l g e x y z : Int) (fa : Fit a) (fb : Fit 0) (ha0 : 0 ≤ a) (ha1 : a ≤ 4294967295)
    (hd : Hid (doV 1 a 0 = d)) (hq : Hid (doV 3 a 0 = 0)) (hm : Hid (doV 4 a 0 = 0)) (hl : Hid (doV 10 a 0 = l)) (hg : Hid (doV 10 0 a = g))
    (he : Hid (doV 11 a 0 = e)) (hx : Hid (doV 7 a 0 = x)) (hy : Hid (doV 5 a 0 = y)) (hz : Hid (doV 6 a 0 = z)) (w : World)
    (h6 : d = a)
    (h7 : 0 ≤ x) (h8 : 0 ≤ y) (h9 : x + y ≤ z) (h10 : z ≤ x + y) (h11 : z ≤ 4294967295)
    (hc : (l = 0 ∧ g = 1 ∧ e = 0 ∧ 0 < a ∧ (a == 0) = false) ∨ (l = 0 ∧ g = 0 ∧ e = 1 ∧ a = 0)) :
    Calls Try.prog 4 #[.int .u32 a, .int .u32 0] w fun e w' => e = .returned (.bool true) ∧ w = w' := by
  subst h6
  rcases hc with ⟨rfl, rfl, rfl, hlt, hne⟩ | ⟨rfl, rfl, rfl, rfl⟩
  all_goals
    go_enter Try.func4, Try.ntmps4
    go_wp2_with (first | (go_at_call 6; refine (first_any _).mono ?_; rintro e w' ⟨rfl, rfl⟩) | (go_at_call 7; with_reducible refine (do_at hd rfl (by assumption) (by assumption) _).mono ?_; rintro e w' ⟨rfl, rfl⟩) | (go_at_call 7; with_reducible refine (do_at hq rfl (by assumption) (by assumption) _).mono ?_; rintro e w' ⟨rfl, rfl⟩) | (go_at_call 7; with_reducible refine (do_at hm rfl (by assumption) (by assumption) _).mono ?_; rintro e w' ⟨rfl, rfl⟩) | (go_at_call 7; with_reducible refine (do_at hl rfl (by assumption) (by assumption) _).mono ?_; rintro e w' ⟨rfl, rfl⟩) | (go_at_call 7; with_reducible refine (do_at hg rfl (by assumption) (by assumption) _).mono ?_; rintro e w' ⟨rfl, rfl⟩) | (go_at_call 7; with_reducible refine (do_at he rfl (by assumption) (by assumption) _).mono ?_; rintro e w' ⟨rfl, rfl⟩) | (go_at_call 7; with_reducible refine (do_at hx rfl (by assumption) (by assumption) _).mono ?_; rintro e w' ⟨rfl, rfl⟩) | (go_at_call 7; with_reducible refine (do_at hy rfl (by assumption) (by assumption) _).mono ?_; rintro e w' ⟨rfl, rfl⟩) | (go_at_call 7; with_reducible refine (do_at hz rfl (by assumption) (by assumption) _).mono ?_; rintro e w' ⟨rfl, rfl⟩))
    go_ret
    exact ⟨rfl, rfl⟩
theorem bits3 (a b : Int) (fa : Fit a) (fb : Fit b) : 0 ≤ doV 7 a b ∧ 0 ≤ doV 5 a b ∧ doV 7 a b + doV 5 a b = doV 6 a b ∧ doV 6 a b ≤ 4294967295 := by
  have e7 : doV 7 a b = bits .xor .u32 a b := rfl
  have e5 : doV 5 a b = bits .and .u32 a b := rfl
  have e6 : doV 6 a b = bits .or .u32 a b := rfl
  have := fa.hi
  have := fb.hi
  rw [e7, e5, e6, u32_xor a b fa.lo (by omega) fb.lo (by omega), u32_and a b fa.lo (by omega) fb.lo (by omega), u32_or a b fa.lo (by omega) fb.lo (by omega)]
  have h := xor_and_or _ a.toNat b.toNat (Nat.le_refl _)
  have h' : a.toNat ||| b.toNat < 2 ^ 32 := Nat.or_lt_two_pow (by have := fa.lo; omega) (by have := fb.lo; omega)
  omega
theorem rules_any (a b : Int) (fa : Fit a) (fb : Fit b) (w : World) : Calls Try.prog 4 #[.int .u32 a, .int .u32 b] w fun e w' => e = .returned (.bool true) ∧ w = w' := by
  obtain ⟨b1, b2, b3, b4⟩ := bits3 a b fa fb
  have ha0 := fa.lo
  have ha1 := fa.hi
  have hb0 := fb.lo
  have hb1 := fb.hi
  by_cases hb : b = 0
  · subst hb
    refine walk0 a (doV 1 a 0) (doV 10 a 0) (doV 10 0 a) (doV 11 a 0) (doV 7 a 0) (doV 5 a 0) (doV 6 a 0) fa fb ha0 ha1 (Lib.hid rfl) (Lib.hid (by simp [doV])) (Lib.hid (by simp [doV])) (Lib.hid rfl) (Lib.hid rfl) (Lib.hid rfl) (Lib.hid rfl) (Lib.hid rfl) (Lib.hid rfl) w (by simp [doV]; omega) b1 b2 (by omega) (by omega) b4 ?_
    by_cases h : a = 0
    · subst h; right; decide
    · left; refine ⟨?_, ?_, ?_, by omega, by simpa using h⟩
      · simp [doV]; omega
      · simp [doV]; omega
      · simp [doV]; omega
  · have hq : doV 3 a b = a / b := by simp [doV, hb]
    have hm : doV 4 a b = a % b := by simp [doV, hb]
    have hd : doV 1 a b = (a - b) % 4294967296 := rfl
    have hdm := Int.emod_add_mul_ediv a b
    have hp : 0 ≤ a / b * b := Int.mul_nonneg (Int.ediv_nonneg ha0 hb0) hb0
    have hml := Int.emod_lt_of_pos a (show 0 < b by omega)
    have hmn := Int.emod_nonneg a hb
    rw [Int.mul_comm] at hdm
    refine walk1 a b (doV 1 a b) (a / b) (a % b) (doV 10 a b) (doV 10 b a) (doV 11 a b) (doV 7 a b) (doV 5 a b) (doV 6 a b) fa fb ha0 ha1 hb0 hb1 (Lib.hid rfl) (Lib.hid hq) (Lib.hid hm) (Lib.hid rfl) (Lib.hid rfl) (Lib.hid rfl) (Lib.hid rfl) (Lib.hid rfl) (Lib.hid rfl) (by omega) w hp (by omega) (by omega) hmn hml (by rw [hd]; simp; omega) b1 b2 (by omega) (by omega) b4 ?_
    by_cases h : a = b
    · subst h; right; right; refine ⟨?_, ?_, ?_, rfl⟩ <;> simp [doV]
    · by_cases h' : a < b
      · left; refine ⟨?_, ?_, ?_, h', by simpa using h⟩ <;> (simp [doV]; omega)
      · right; left; refine ⟨?_, ?_, ?_, by omega, by simpa using h⟩ <;> (simp [doV]; omega)
end Go.Proofs.Ytpfggggoidfffaa
