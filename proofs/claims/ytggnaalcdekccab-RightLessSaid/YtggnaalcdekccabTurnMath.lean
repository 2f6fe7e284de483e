import Derived.Test.YtggnaalcdekccabRightMath
namespace Go.Proofs.Ytggnaalcdekccab
open Go.ChangeShapes Go.WideShapes Go.ChangeAt Go.RowKit
set_option linter.unusedVariables false
theorem or_comm_fin : ∀ k : Fin 8, ∀ m n : Fin 3, orI (orI (k.val : Int) ((2 ^ m.val : Nat) : Int)) ((2 ^ n.val : Nat) : Int) = orI (orI (k.val : Int) ((2 ^ n.val : Nat) : Int)) ((2 ^ m.val : Nat) : Int) := by decide +kernel
theorem one_in8 (n : Int) (hn : In8 n) (x : Int) : In8 (lessOne n x) := by
  by_cases hx : x = 1 ∨ x = 2 ∨ x = 4
  · exact (lessOne_in n hn x (.inr hx)).1
  · have e : lessOne n x = n := if_neg hx
    rw [e]; exact hn
theorem pow_of {x : Int} (hx : x = 1 ∨ x = 2 ∨ x = 4) : ∃ m : Fin 3, x = ((2 ^ m.val : Nat) : Int) := by rcases hx with rfl | rfl | rfl; exact ⟨0, rfl⟩; exact ⟨1, rfl⟩; exact ⟨2, rfl⟩
theorem one_comm (k : Int) (hk : In8 k) (x y : Int) : lessOne (lessOne k x) y = lessOne (lessOne k y) x := by
  by_cases hx : x = 1 ∨ x = 2 ∨ x = 4
  · by_cases hy : y = 1 ∨ y = 2 ∨ y = 4
    · have e1 : ∀ n, lessOne n x = orI n x := fun n => if_pos hx
      have e2 : ∀ n, lessOne n y = orI n y := fun n => if_pos hy
      rw [e1, e2, e2, e1]
      obtain ⟨k, rfl⟩ := hk.fin
      obtain ⟨m, rfl⟩ := pow_of hx
      obtain ⟨n, rfl⟩ := pow_of hy
      exact or_comm_fin k m n
    · have e2 : ∀ n, lessOne n y = n := fun n => if_neg hy
      rw [e2, e2]
  · have e1 : ∀ n, lessOne n x = n := fun n => if_neg hx
    rw [e1, e1]
theorem less_front (xs : List Int) : ∀ (k x : Int), In8 k → lessR (lessOne k x) xs = lessOne (lessR k xs) x ∧ In8 (lessR k xs) := by
  induction xs with
  | nil => intro k x hk; exact ⟨rfl, hk⟩
  | cons y r ih =>
    intro k x hk
    have e : ∀ n, lessR n (y :: r) = lessR (lessOne n y) r := fun n => rfl
    rw [e, e, one_comm k hk x y]
    exact ih (lessOne k y) x (one_in8 k hk y)
theorem less_rev (k : Int) (hk : In8 k) (xs : List Int) : lessR k xs.reverse = lessR k xs := by
  induction xs with
  | nil => rfl
  | cons x r ih =>
    have e : lessR k (x :: r) = lessR (lessOne k x) r := rfl
    rw [List.reverse_cons, lessR_snoc, ih, e, (less_front r k x hk).1]
theorem lessK_rev (k0 k3 : Int) (hk : In8 k3) (xs : List Int) : lessK k0 k3 xs.reverse = lessK k0 k3 xs := by
  unfold lessK
  split
  · exact less_rev k3 hk xs
  · rfl
theorem codeOf_less {k0 k1 k2 k3 k4 : Int} (hk : codeOf k0 k1 k2 k3 k4 = 0) (xs : List Int) : codeOf k0 k1 k2 (lessK k0 k3 xs) k4 = 0 := by
  by_cases hm : k0 = 2 ∨ k0 = 3
  · have e : lessK k0 k3 xs = lessR k3 xs := if_pos hm
    have h8 := (less_front xs k3 0 (rights_in _ _ _ _ _ hk)).2
    rw [e]
    by_cases h1 : k0 < 0 ∨ 14 < k0
    · omega
    unfold codeOf at hk
    rw [if_neg h1] at hk
    by_cases h2 : InB k0 k1 k2 k3 k4
    · refine codeOf_0 _ _ _ _ _ h1 ?_
      unfold InB at h2 ⊢
      obtain ⟨q0, q1, q2, q3, q4, q5, q6⟩ := h2
      have : rightsOf k0 = 7 := by rcases hm with rfl | rfl <;> rfl
      exact ⟨q0, q1, q2, q3, h8.1, by rw [this]; exact h8.2, q6⟩
    · rw [if_neg h2] at hk; omega
  · have e : lessK k0 k3 xs = k3 := if_neg hm
    rw [e]; exact hk
end Go.Proofs.Ytggnaalcdekccab
