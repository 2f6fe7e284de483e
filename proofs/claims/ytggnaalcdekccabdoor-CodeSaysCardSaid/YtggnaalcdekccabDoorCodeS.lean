/-
  The laws' own same, plain, first; unlike right instructions have unlike texts and words.
-/
import Derived.Test.YtggnaalcdekccabDoorCodeT
namespace Go.Proofs.YtggnaalcdekccabDoor
open Go.ChangeShapes Go.WideShapes Go.ChangeAt Go.RowKit
set_option linter.unusedVariables false
def sameC (a0 a1 a2 a3 a4 b0 b1 b2 b3 b4 : Int) : Bool := a0 == b0 && (a1 == b1 && (a2 == b2 && (a3 == b3 && a4 == b4)))
theorem csame_any (a0 a1 a2 a3 a4 b0 b1 b2 b3 b4 : Int) (w : World) :
    Calls Tryd.prog 15 #[.agg #[.int .i64 a0, .int .i64 a1, .int .i64 a2, .int .i64 a3, .int .i64 a4], .agg #[.int .i64 b0, .int .i64 b1, .int .i64 b2, .int .i64 b3, .int .i64 b4]] w
      fun e w' => e = .returned (.bool (sameC a0 a1 a2 a3 a4 b0 b1 b2 b3 b4)) ∧ Below w.heap.size w w' := by
  go_enter Tryd.func15, Tryd.ntmps15
  go_wp2
  all_goals go_ret
  all_goals refine ⟨?_, ((Below.refl _ _).alloc (Nat.le_refl _) _).alloc (by simp) _⟩
  all_goals simp [sameC, *]
theorem same_is (k0 k1 k2 k3 k4 : Int) (r0 r1 r2 r3 r4 : Int) (t : Bool) (h : Hid (sameC k0 k1 k2 k3 k4 r0 r1 r2 r3 r4 = t)) (w : World) :
    Calls Tryd.prog 15 #[(Value.agg #[.int .i64 k0, .int .i64 k1, .int .i64 k2, .int .i64 k3, .int .i64 k4]), (Value.agg #[.int .i64 r0, .int .i64 r1, .int .i64 r2, .int .i64 r3, .int .i64 r4])] w fun e w' => e = .returned (.bool t) ∧ Below w.heap.size w w' := by
  rw [← h.out]; exact csame_any _ _ _ _ _ _ _ _ _ _ w
theorem same_self (k0 k1 k2 k3 k4 : Int) : Hid (sameC k0 k1 k2 k3 k4 k0 k1 k2 k3 k4 = true) := Lib.hid (by simp [sameC])
theorem plain_is (k0 k1 k2 k3 k4 : Int) (w : World) : Calls Tryd.prog 9 #[(Value.agg #[.int .i64 k0, .int .i64 k1, .int .i64 k2, .int .i64 k3, .int .i64 k4])] w fun e w' => e = .returned (Value.agg #[.int .i64 k0, .int .i64 k1, .int .i64 k2, .int .i64 k3, .int .i64 k4]) ∧ Below w.heap.size w w' := by
  go_enter Tryd.func9, Tryd.ntmps9
  go_wp2
  refine bodyPost_ret (v := (Value.agg #[.int .i64 k0, .int .i64 k1, .int .i64 k2, .int .i64 k3, .int .i64 k4])) (by simp [results, Tryd.results9, go_sem]) rfl ⟨rfl, ?_⟩
  first | exact ((Below.refl _ _).alloc (Nat.le_refl _) _).alloc (by simp) _ | exact (((((((Below.refl _ _).alloc (Nat.le_refl _) _).alloc (by simp) _).setCell (by simp) _).setCell (by simp) _).setCell (by simp) _).setCell (by simp) _).setCell (by simp) _
theorem first_text : textC 1 1 0 0 5 = ⟨#[108, 105, 32, 114, 49, 32, 53]⟩ := by
  have e1 : Lib.decDigits 1 = [49] := Lib.decDigits_one (by decide)
  have e5 : Lib.decDigits 5 = [53] := Lib.decDigits_one (by decide)
  have h1 : tellB 1 (fA.getD 1 0) = ⟨#[32, 114, 49]⟩ := by show (⟨(32 :: 114 :: Lib.decDigits 1).toArray⟩ : ByteArray) = _; rw [e1]
  have h5 : tellB 5 (fI.getD 1 0) = ⟨#[32, 53]⟩ := by show (⟨(32 :: Lib.decDigits 5).toArray⟩ : ByteArray) = _; rw [e5]
  have h0 : tellB 0 (fB.getD 1 0) = ⟨#[]⟩ := rfl
  have hc : tellB 0 (fC.getD 1 0) = ⟨#[]⟩ := rfl
  unfold textC
  rw [if_neg (by decide), show (1 : Int).toNat = 1 by rfl, h1, h5, h0, hc]
  decide +kernel
theorem first_ok : okB 1 1 0 0 5 = true := by decide
theorem zero_parts : PartsC 0 0 0 0 0 0 := by unfold PartsC; decide
theorem zero_no : okB 0 0 0 0 0 = false := by decide
set_option maxRecDepth 100000 in
theorem cfirst_any (x y : Addr) (w : World) (hC : CodeAt (errC x) (errC y) w) (hT : Tells w) : Calls Tryd.prog 7 #[] w fun e w' => e = .returned (.bool true) ∧ Below w.heap.size w w' := by
  obtain ⟨s, hs⟩ : ∃ s, Hid (textC 1 1 0 0 5 = s) := ⟨_, Lib.hid rfl⟩
  have hsl : (s.toList == [108, 105, 32, 114, 49, 32, 53]) = true := by
    rw [← hs.out, first_text, ByteArray.toList_eq]; rfl
  go_enter Tryd.func7, Tryd.ntmps7
  go_wp2_with (first
    | (go_at_call 11; (with_reducible refine (cread_no 0 0 0 0 0 0 x y _ hC (by decide) (by decide) (Lib.hid zero_parts) (Lib.hid zero_no)).mono ?_); rintro e w1 ⟨rfl, hb⟩; have HB := Lib.hid hb; have HC := hC.below hb; have HT := hT.below hb; clear hC hT hb)
    | (go_at_call 17; (with_reducible refine (ctext_right 1 1 0 0 5 x y _ (HC.below ((Below.refl _ _).alloc (Nat.le_refl _) _)) (HT.below ((Below.refl _ _).alloc (Nat.le_refl _) _)) (Lib.hid first_ok) s hs).mono ?_); rintro e w2 ⟨rfl, hb⟩))
  go_ret
  exact ⟨rfl, HB.out.trans ((((Below.refl _ _).alloc (Nat.le_refl _) _).trans (hb.mono (by simp))).mono HB.out.size)⟩
end Go.Proofs.YtggnaalcdekccabDoor
