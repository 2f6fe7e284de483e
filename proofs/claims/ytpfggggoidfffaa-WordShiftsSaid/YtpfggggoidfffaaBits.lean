import Derived.Laws.BitsAllLaws
namespace Go.Proofs.Ytpfggggoidfffaa
theorem xor_and_or : ∀ n x y : Nat, x ≤ n → (x ^^^ y) + (x &&& y) = x ||| y := by
  intro n
  induction n with
  | zero => intro x y h; obtain rfl : x = 0 := by omega
            simp
  | succ n ih =>
    intro x y h
    by_cases hx : x = 0
    · subst hx; simp
    have h2 := ih (x / 2) (y / 2) (by omega)
    rw [← Nat.xor_div_two, ← Nat.and_div_two, ← Nat.or_div_two] at h2
    have a1 := Nat.xor_mod_two_eq_one (a := x) (b := y)
    have a2 := Nat.and_mod_two_eq_one (a := x) (b := y)
    have a3 := Nat.or_mod_two_eq_one (a := x) (b := y)
    have b1 : (x ^^^ y) % 2 < 2 := Nat.mod_lt _ (by decide)
    have b2 : (x &&& y) % 2 < 2 := Nat.mod_lt _ (by decide)
    have b3 : (x ||| y) % 2 < 2 := Nat.mod_lt _ (by decide)
    omega
end Go.Proofs.Ytpfggggoidfffaa
