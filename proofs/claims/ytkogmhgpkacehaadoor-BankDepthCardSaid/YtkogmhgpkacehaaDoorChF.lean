/-
  Numbers by parents that stand below.
-/
import Derived.Test.YtkogmhgpkacehaaDoorAr
namespace Go.Proofs.YtkogmhgpkacehaaDoor
open Go.ChangeShapes Go.WideShapes Go.ChangeAt Go.RowKit
set_option linter.unusedVariables false
/-- The chain of x: at most f of it. -/
def chF (pr : Nat → Int) : Nat → Int → List Int
  | 0, _ => []
  | f + 1, x => if x < 0 then [] else x :: chF pr f (pr x.toNat)
theorem chF_neg (pr : Nat → Int) (f : Nat) (x : Int) (h : x < 0) : chF pr f x = [] := by
  cases f with
  | zero => rfl
  | succ f => simp [chF, h]
theorem chF_fuel (pr : Nat → Int) (j : Nat) (hpr : ∀ i, i ≤ j → -1 ≤ pr i ∧ pr i < i) : ∀ (f g : Nat) (x : Int), x ≤ j → x < f → x < g → chF pr f x = chF pr g x := by
  intro f
  induction f with
  | zero => intro g x _ h _; rw [chF_neg _ _ _ (by omega), chF_neg _ _ _ (by omega)]
  | succ f ih =>
    intro g x hx h1 h2
    cases g with
    | zero => rw [chF_neg _ _ _ (by omega), chF_neg _ _ _ (by omega)]
    | succ g =>
      unfold chF
      by_cases h0 : x < 0
      · rw [if_pos h0, if_pos h0]
      · rw [if_neg h0, if_neg h0]
        have h3 := hpr x.toNat (by omega)
        rw [ih g (pr x.toNat) (by omega) (by omega) (by omega)]
end Go.Proofs.YtkogmhgpkacehaaDoor
