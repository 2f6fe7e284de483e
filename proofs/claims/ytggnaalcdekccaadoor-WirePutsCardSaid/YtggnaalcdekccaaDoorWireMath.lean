/-
  Plain mathematics of chapter 1: zig-zag, seven bits a byte.
-/
import Derived.Laws.BitsAllLaws
namespace Go.Proofs.YtggnaalcdekccaaDoor
/-- The bytes of a number, seven bits a byte, the lowest first. -/
def enc (u : Nat) : List Nat := if h : u < 128 then [u] else (u % 128 + 128) :: enc (u / 128)
termination_by u
decreasing_by omega
theorem enc_lt {u : Nat} (h : u < 128) : enc u = [u] := by rw [enc]; simp [h]
theorem enc_ge {u : Nat} (h : 128 ≤ u) : enc u = (u % 128 + 128) :: enc (u / 128) := by rw [enc]; simp [show ¬ u < 128 by omega]
theorem enc_ne (u : Nat) : enc u ≠ [] := by
  by_cases h : u < 128
  · rw [enc_lt h]; simp
  · rw [enc_ge (by omega)]; simp
theorem enc_len : ∀ (k u : Nat), u < 128 ^ (k + 1) → (enc u).length ≤ k + 1 := by
  intro k
  induction k with
  | zero => intro u h; rw [enc_lt (by simpa using h)]; simp
  | succ k ih =>
    intro u h
    by_cases h1 : u < 128
    · rw [enc_lt h1]; simp
    · rw [enc_ge (by omega)]
      have := ih (u / 128) (by rw [Nat.pow_succ] at h; exact Nat.div_lt_of_lt_mul (by rw [Nat.mul_comm]; exact h))
      simp; omega
theorem enc_len10 {u : Nat} (h : u < 18446744073709551616) : (enc u).length ≤ 10 := enc_len 9 u (Nat.lt_of_lt_of_le h (by decide))
theorem enc_byte : ∀ (n u : Nat), u ≤ n → ∀ x ∈ enc u, x < 256 := by
  intro n
  induction n with
  | zero => intro u h x hx; rw [enc_lt (by omega)] at hx; simp at hx; omega
  | succ n ih =>
    intro u h x hx
    by_cases h1 : u < 128
    · rw [enc_lt h1] at hx; simp at hx; omega
    · rw [enc_ge (by omega)] at hx
      rcases List.mem_cons.1 hx with rfl | hx
      · omega
      · exact ih (u / 128) (by omega) x hx
/-- What parse answers, from place i on, u gathered so far: the number, how many bytes, 0 fine, 1 cut off, 2 not as it has to be. -/
def pars (i u : Nat) : List Nat → Nat × Nat × Nat
  | [] => (0, 0, 1)
  | x :: r => if (i = 9 ∧ 1 < x) ∨ (0 < i ∧ x = 0) then (0, 0, 2) else if x < 128 then (u + x % 128 * 128 ^ i, i + 1, 0) else pars (i + 1) (u + x % 128 * 128 ^ i) r
theorem pars_enc : ∀ (n v i u : Nat) (r : List Nat), v ≤ n → (0 < i → v ≠ 0) → v * 128 ^ i < 18446744073709551616 → pars i u (enc v ++ r) = (u + v * 128 ^ i, i + (enc v).length, 0) := by
  intro n
  induction n with
  | zero =>
    intro v i u r h hi hb
    have hv : v = 0 := by omega
    subst hv
    have h0 : ¬ 0 < i := fun h => hi h rfl
    rw [enc_lt (by omega)]
    have : i = 0 := by omega
    subst this
    simp [pars]
  | succ n ih =>
    intro v i u r h hi hb
    have h9 : i = 9 → v < 2 := by rintro rfl; omega
    by_cases h1 : v < 128
    · rw [enc_lt h1]
      have hc : ¬ ((i = 9 ∧ 1 < v) ∨ (0 < i ∧ v = 0)) := by
        rintro (⟨a, b⟩ | ⟨a, b⟩)
        · have := h9 a; omega
        · exact hi a b
      simp only [List.cons_append, List.nil_append, pars, if_neg hc, if_pos h1, Nat.mod_eq_of_lt h1, List.length_singleton]
    · rw [enc_ge (by omega)]
      have hc : ¬ ((i = 9 ∧ 1 < v % 128 + 128) ∨ (0 < i ∧ v % 128 + 128 = 0)) := by
        rintro (⟨a, b⟩ | ⟨a, b⟩)
        · have := h9 a; omega
        · omega
      have hn : ¬ v % 128 + 128 < 128 := by omega
      have em : (v % 128 + 128) % 128 = v % 128 := by omega
      have key : v % 128 * 128 ^ i + v / 128 * 128 ^ (i + 1) = v * 128 ^ i := by
        have h2 : v = v % 128 + 128 * (v / 128) := by omega
        calc v % 128 * 128 ^ i + v / 128 * 128 ^ (i + 1) = (v % 128 + 128 * (v / 128)) * 128 ^ i := by rw [Nat.pow_succ, Nat.add_mul]; congr 1; rw [Nat.mul_comm 128, Nat.mul_assoc, Nat.mul_comm 128]
          _ = v * 128 ^ i := by rw [← h2]
      rw [List.cons_append, pars, if_neg hc, if_neg hn, em, ih (v / 128) (i + 1) _ r (by omega) (fun _ => by omega) (by omega)]
      simp only [List.length_cons, Prod.mk.injEq, and_true]
      omega
theorem pars_cut : ∀ (n v i u k : Nat), v ≤ n → (0 < i → v ≠ 0) → v * 128 ^ i < 18446744073709551616 → k < (enc v).length → pars i u ((enc v).take k) = (0, 0, 1) := by
  intro n
  induction n with
  | zero =>
    intro v i u k h hi hb hk
    rw [enc_lt (by omega)] at hk ⊢
    have : k = 0 := by simpa using hk
    subst this
    rfl
  | succ n ih =>
    intro v i u k h hi hb hk
    have h9 : i = 9 → v < 2 := by rintro rfl; omega
    by_cases h1 : v < 128
    · rw [enc_lt h1] at hk ⊢
      have : k = 0 := by simpa using hk
      subst this
      rfl
    · rw [enc_ge (by omega)] at hk ⊢
      cases k with
      | zero => rfl
      | succ k =>
        have hc : ¬ ((i = 9 ∧ 1 < v % 128 + 128) ∨ (0 < i ∧ v % 128 + 128 = 0)) := by
          rintro (⟨a, b⟩ | ⟨a, b⟩)
          · have := h9 a; omega
          · omega
        have hn : ¬ v % 128 + 128 < 128 := by omega
        have key : v / 128 * 128 ^ (i + 1) ≤ v * 128 ^ i := by
          rw [Nat.pow_succ, ← Nat.mul_assoc, Nat.mul_right_comm]
          exact Nat.mul_le_mul_right _ (Nat.div_mul_le_self _ _)
        rw [List.take_succ_cons, pars, if_neg hc, if_neg hn]
        exact ih (v / 128) (i + 1) _ k (by omega) (fun _ => by omega) (by omega) (by simpa using hk)
/-- The zig-zag number of n, and back. -/
def zig (n : Int) : Nat := if 0 ≤ n then (2 * n).toNat else (-2 * n - 1).toNat
def zag (u : Nat) : Int := if u % 2 = 0 then (u / 2 : Nat) else -(u / 2 : Nat) - 1
theorem zag_zig (n : Int) : zag (zig n) = n := by
  unfold zag zig
  split <;> split <;> omega
theorem zig_lt {n : Int} (h1 : -9223372036854775808 ≤ n) (h2 : n ≤ 9223372036854775807) : zig n < 18446744073709551616 := by
  unfold zig; split <;> omega
theorem zig_inj {a b : Int} (h : zig a = zig b) : a = b := by rw [← zag_zig a, h, zag_zig]
end Go.Proofs.YtggnaalcdekccaaDoor
