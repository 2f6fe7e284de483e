/-
  package arena: IndexFunc over the places, Take, Give, Used, Left.
-/
import Derived.Test.YtncopdhhchmpeaaGreatDoorAr
import Derived.Test.YtncopdhhchmpeaaGreatDoorSee
namespace Go.Proofs.YtncopdhhchmpeaaGreatDoor
open Go.ChangeShapes Go.WideShapes Go.ChangeAt Go.RowKit
set_option linter.unusedVariables false
abbrev fnFree : Value := .func (.func 97) #[] #[]
set_option maxRecDepth 100000 in
theorem aindex_none {base p B n c : Nat} {th : Nat → Bool} {vr : Nat → Int} (w : World) (hA : ArAt w base p B n c th vr) (hno : Hid (∀ i, i < n → freeB th vr i = false)) :
    Calls Tryz.prog 96 #[.slice (some ⟨B, 0, none⟩) n c, fnFree] w fun e w' => e = .returned (.int .i64 (-1)) ∧ Below w.heap.size w w' := by
  have HA := Lib.hid hA
  have hn := hA.le
  clear hA
  go_enter Tryz.func96, Tryz.ntmps96
  go_wp2_with fail
  go_loopw [8] (fun i wr => ∃ k : Nat, k ≤ n ∧ i = .int .i64 k ∧ Below w.heap.size w wr) (fun i _ => n - (intOf i).toNat)
  case atStart => exact ⟨0, by omega, rfl, Below.refl _ _⟩
  case round =>
    obtain ⟨k, hk, rfl, hB⟩ := hrel
    have HB := Lib.hid hB
    by_cases hlt : k < n
    · have hw := HA.out.below hB
      have h0 := hw.at0 k hlt
      have h1 := hw.at1 k hlt
      have HF : Hid ((!th k && decide (vr k ≤ 1048575)) = false) := Lib.hid (hno.out k hlt)
      generalize th k = t at h0 HF
      generalize vr k = v at h1 HF
      have k0 : (0 : Int) ≤ k := by omega
      clear hw hB
      go_wp2_with (first | (go_at_call 97; (with_reducible refine (afree_is t v false HF _).mono ?_); rintro e w1 ⟨rfl, hb⟩; have HB2 := Lib.hid (HB.out.trans (hb.mono HB.out.size)); clear hb h0 h1))
      go_roundw
      case rel => exact ⟨k + 1, by omega, by go_num, HB2.out⟩
      case measure => simp [intOf]; omega
    · have hdd : decide (k < n) = false := by simp; omega
      clear hB
      go_wp2
      go_ret
      exact ⟨rfl, HB.out⟩
set_option maxRecDepth 100000 in
theorem aindex_at {base p B n c : Nat} {th : Nat → Bool} {vr : Nat → Int} (w : World) (hA : ArAt w base p B n c th vr) (j : Nat) (hj : j < n) (hyes : Hid (freeB th vr j = true)) (hno : Hid (∀ i, i < j → freeB th vr i = false)) :
    Calls Tryz.prog 96 #[.slice (some ⟨B, 0, none⟩) n c, fnFree] w fun e w' => e = .returned (.int .i64 j) ∧ Below w.heap.size w w' := by
  have HA := Lib.hid hA
  have hn := hA.le
  clear hA
  go_enter Tryz.func96, Tryz.ntmps96
  go_wp2_with fail
  go_loopw [8] (fun i wr => ∃ k : Nat, k ≤ j ∧ i = .int .i64 k ∧ Below w.heap.size w wr) (fun i _ => n - (intOf i).toNat)
  case atStart => exact ⟨0, by omega, rfl, Below.refl _ _⟩
  case round =>
    obtain ⟨k, hk, rfl, hB⟩ := hrel
    have HB := Lib.hid hB
    have hkn : k < n := by omega
    have hw := HA.out.below hB
    have h0 := hw.at0 k hkn
    have h1 := hw.at1 k hkn
    have k0 : (0 : Int) ≤ k := by omega
    by_cases hlt : k < j
    · have HF : Hid ((!th k && decide (vr k ≤ 1048575)) = false) := Lib.hid (hno.out k hlt)
      generalize th k = t at h0 HF
      generalize vr k = v at h1 HF
      clear hw hB
      go_wp2_with (first | (go_at_call 97; (with_reducible refine (afree_is t v false HF _).mono ?_); rintro e w1 ⟨rfl, hb⟩; have HB2 := Lib.hid (HB.out.trans (hb.mono HB.out.size)); clear hb h0 h1))
      go_roundw
      case rel => exact ⟨k + 1, by omega, by go_num, HB2.out⟩
      case measure => simp [intOf]; omega
    · obtain rfl : j = k := by omega
      have HF : Hid ((!th j && decide (vr j ≤ 1048575)) = true) := hyes
      generalize th j = t at h0 HF
      generalize vr j = v at h1 HF
      clear hw hB
      go_wp2_with (first | (go_at_call 97; (with_reducible refine (afree_is t v true HF _).mono ?_); rintro e w1 ⟨rfl, hb⟩; have HB2 := Lib.hid (HB.out.trans (hb.mono HB.out.size)); clear hb h0 h1))
      go_ret
      exact ⟨rfl, HB2.out⟩
end Go.Proofs.YtncopdhhchmpeaaGreatDoor
