/-
  ArenaVersions: the walk.
-/
import Derived.Test.YtncopdhhchmpeaaGreatDoorArN
namespace Go.Proofs.YtncopdhhchmpeaaGreatDoor
open Go.ChangeShapes Go.WideShapes Go.ChangeAt Go.RowKit
set_option linter.unusedVariables false
theorem number_nat (n m : Int) (M : Nat) (hm : m = (M : Int)) (hm0 : 0 < M) (hm1 : M ≤ 1000) (h1 : -9223372036854775808 ≤ n) (h2 : n ≤ 9223372036854775807) : ∃ r : Nat, r < M ∧ ∀ w, Calls Tryz.prog 14 #[.int .i64 n, .int .i64 m] w fun e w' => e = .returned (.int .i64 r) ∧ w = w' := by
  have e0 := Int.emod_nonneg n (show m ≠ 0 by omega)
  have e1 := Int.emod_lt_of_pos n (show 0 < m by omega)
  refine ⟨(n % m).toNat, by omega, fun w => ?_⟩
  exact number_is n m _ (by omega) (by omega) h1 h2 (Lib.hid (by omega)) w
theorem anew_at (x : Int) (n : Nat) (hx : Hid (x = n)) (h1 : 1 ≤ n) (h2 : n ≤ 256) (w : World) :
    Calls Tryz.prog 127 #[.int .i64 x] w fun e w' => ∃ p B, e = .returned (.tuple #[.pointer (some ⟨p, 0, none⟩), .nilIface]) ∧ ArAt w' w.heap.size p B n n (fun _ => false) (fun _ => 0) ∧ Below w.heap.size w w' := by
  rw [hx.out]; exact anew_ok n h1 h2 w
theorem aleft_at {base p B n c : Nat} {th : Nat → Bool} {vr : Nat → Int} (x : Int) (w : World) (hA : ArAt w base p B n c th vr) (hx : Hid (((cntB (freeB th vr) n : Nat) : Int) = x)) :
    Calls Tryz.prog 191 #[.pointer (some ⟨p, 0, none⟩)] w fun e w' => e = .returned (.int .i64 x) ∧ Below w.heap.size w w' := by
  rw [← hx.out]; exact aleft_is w hA
theorem cnt_all (n : Nat) : cntB (fun _ => true) n = n := by
  induction n with
  | zero => rfl
  | succ n ih => unfold cntB; rw [ih]; rfl
theorem cnt_none (P : Nat → Bool) (n : Nat) (h : ∀ i, i < n → P i = false) : cntB P n = 0 := by
  induction n with
  | zero => rfl
  | succ n ih => unfold cntB; rw [ih (fun i hi => h i (by omega)), h n (by omega)]; rfl
/-- The places of this law: filled up to k; all there, one of them m times anew. -/
def thK (k : Nat) : Nat → Bool := fun i => decide (i < k)
def vrM (a m : Nat) : Nat → Int := fun i => if i = a then (m : Int) else 0
def VV (W w : World) (base p B n c : Nat) (th : Nat → Bool) (vr : Nat → Int) : Prop := Below W.heap.size W w ∧ ArAt w base p B n c th vr ∧ W.heap.size ≤ base
section
variable {W w w' : World} {base p B n c : Nat} {th th' : Nat → Bool} {vr vr' : Nat → Int}
theorem VV.ar (h : VV W w base p B n c th vr) : ArAt w base p B n c th vr := h.2.1
theorem VV.bel (h : VV W w base p B n c th vr) : Below W.heap.size W w := h.1
theorem VV.step (h : VV W w base p B n c th vr) (hb : Below w.heap.size w w') : VV W w' base p B n c th vr := ⟨h.1.trans (hb.mono h.1.size), h.2.1.below hb, h.2.2⟩
theorem VV.turn (h : VV W w base p B n c th vr) (hA : ArAt w' base p B n c th' vr') (hg : w.grownBy w' (some B)) : VV W w' base p B n c th' vr' := ⟨below_grown h.1 hg (Nat.le_trans h.2.2 h.2.1.lt.1), hA, h.2.2⟩
theorem VV.congr (h : VV W w base p B n c th vr) (h1 : ∀ i, i < n → th i = th' i) (h2 : ∀ i, i < n → vr i = vr' i) : VV W w base p B n c th' vr' := ⟨h.1, h.2.1.congr h1 h2, h.2.2⟩
end
theorem i64_fit {a : Int} (h : (Lit.int .i64 a).wf = true) : -9223372036854775808 ≤ a ∧ a ≤ 9223372036854775807 := by simpa [Lit.wf, IntKind.min, IntKind.max, IntKind.signed, IntKind.bits] using h
end Go.Proofs.YtncopdhhchmpeaaGreatDoor
