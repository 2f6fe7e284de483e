/-
  package arena: what an arena is in memory; has, There, Live, Ver, Cap; place.free.
-/
import Derived.Test.YtncopdhhchmpeaaGreatDoorArMath
import Derived.Outline
import Derived.Deep.RegionWith
import Derived.Deep.RegionHeld3
import Derived.Deep.QuietTactic
import Derived.BigQuiet
import Derived.WalkLawsBesides
import Derived.WalkSpells
namespace Go.Proofs.YtncopdhhchmpeaaGreatDoor
open Go.ChangeShapes Go.WideShapes Go.ChangeAt Go.RowKit
set_option linter.unusedVariables false
theorem bcellA {W w1 : World} (hb : Below W.heap.size W w1) : (∀ b o, b < W.heap.size → w1.cell? ⟨b, o, none⟩ = W.cell? ⟨b, o, none⟩) ∧ (∀ b o, b < W.heap.size → w1.frozen? ⟨b, o, none⟩ = W.frozen? ⟨b, o, none⟩) :=
  ⟨fun b o h => hb.cell (p := ⟨b, o, none⟩) h, fun b o h => hb.frozen (p := ⟨b, o, none⟩) h⟩
theorem own_below {w w' : World} {B E s n : Nat} {v : Value} {xs : List Value} (h : w.ownsRow B E s v n xs) (hb : Below w.heap.size w w') : w'.ownsRow B E s v n xs := by
  refine ⟨h.1, ?_⟩
  rcases h.2 with hn | ⟨g, cap, cur, rfl, hB, hg, rest⟩
  · exact .inl hn
  · refine .inr ⟨g, cap, cur, rfl, hB, ?_, rest⟩
    rw [hb.block g ?_]
    · exact hg
    · rcases Nat.lt_or_ge g w.heap.size with h' | h'
      · exact h'
      · simp [Array.getElem?_eq_none h'] at hg
/-- An arena lies at block p, its n places at block B: whether somebody is there, and the versions. -/
structure ArAt (w : World) (base p B n c : Nat) (th : Nat → Bool) (vr : Nat → Int) : Prop where
  pl : p < w.heap.size
  pb : base ≤ p
  fld : w.cell? ⟨p, 0, none⟩ = some (.slice (some ⟨B, 0, none⟩) n c)
  own : w.ownsRow base 173 2 (.slice (some ⟨B, 0, none⟩) n c) n (plc th vr n)
  ne : p ≠ B
  le : n ≤ 256
section
variable {w w' : World} {base p B n c : Nat} {th : Nat → Bool} {vr : Nat → Int}
theorem ArAt.below (h : ArAt w base p B n c th vr) (hb : Below w.heap.size w w') : ArAt w' base p B n c th vr :=
  ⟨Nat.lt_of_lt_of_le h.pl hb.size, h.pb, (hb.cell (p := ⟨p, 0, none⟩) h.pl).trans h.fld, own_below h.own hb, h.ne, h.le⟩
theorem ArAt.at0 (h : ArAt w base p B n c th vr) (i : Nat) (hi : i < n) : w.cell? ⟨B, i * 2, none⟩ = some (.bool (th i)) := by
  rw [h.own.cellAt (i * 2) (by omega), plc_at0 th vr n i hi]
theorem ArAt.at1 (h : ArAt w base p B n c th vr) (i : Nat) (hi : i < n) : w.cell? ⟨B, i * 2 + 1, none⟩ = some (.int .i64 (vr i)) := by
  rw [h.own.cellAt (i * 2 + 1) (by omega), plc_at1 th vr n i hi]
theorem ArAt.lt (h : ArAt w base p B n c th vr) : base ≤ B ∧ B < w.heap.size := h.own.lt B rfl
end
theorem ahas_is {base p B n c : Nat} {th : Nat → Bool} {vr : Nat → Int} (id : Int) (t : Bool) (ht : Hid (decide (0 ≤ id ∧ id < n) = t)) (w : World) (hA : ArAt w base p B n c th vr) : Calls Tryz.prog 94 #[.pointer (some ⟨p, 0, none⟩), .int .i64 id] w fun e w' => e = .returned (.bool t) ∧ w = w' := by
  have hf := hA.fld
  have ht := ht.out
  clear hA
  cases t
  · rw [decide_eq_false_iff_not] at ht
    by_cases h0 : 0 ≤ id
    · have d0 : decide (0 ≤ id) = true := decide_eq_true h0
      have d1 : decide (id < (n : Int)) = false := by rw [decide_eq_false_iff_not]; omega
      clear ht h0
      go_enter Tryz.func94, Tryz.ntmps94
      go_wp2
      go_ret
      exact ⟨rfl, rfl⟩
    · have d0 : decide (0 ≤ id) = false := decide_eq_false h0
      clear ht h0
      go_enter Tryz.func94, Tryz.ntmps94
      go_wp2
      go_ret
      exact ⟨rfl, rfl⟩
  · rw [decide_eq_true_iff] at ht
    have d0 : decide (0 ≤ id) = true := decide_eq_true ht.1
    have d1 : decide (id < (n : Int)) = true := decide_eq_true ht.2
    clear ht
    go_enter Tryz.func94, Tryz.ntmps94
    go_wp2
    go_ret
    exact ⟨rfl, rfl⟩
/-- Is somebody there? -/
def thereB (n : Nat) (th : Nat → Bool) (id : Int) : Bool := decide (0 ≤ id ∧ id < n) && th id.toNat
theorem athere_in {base p B n c : Nat} {th : Nat → Bool} {vr : Nat → Int} (k : Nat) (hk : k < n) (t : Bool) (ht : Hid (th k = t)) (w : World) (hA : ArAt w base p B n c th vr) : Calls Tryz.prog 63 #[.pointer (some ⟨p, 0, none⟩), .int .i64 k] w fun e w' => e = .returned (.bool t) ∧ w = w' := by
  have hf := hA.fld
  have h0 := hA.at0 k hk
  rw [ht.out] at h0
  have HA := Lib.hid hA
  have hn := hA.le
  have HK : Hid (decide (0 ≤ (k : Int) ∧ (k : Int) < n) = true) := Lib.hid (decide_eq_true (by omega))
  have k0 : (0 : Int) ≤ k := by omega
  have k1 : (k : Int) < n := by omega
  clear hA ht
  go_enter Tryz.func63, Tryz.ntmps63
  go_wp2_with (first | (go_at_call 94; (with_reducible refine (ahas_is _ true HK _ HA.out).mono ?_); rintro e w1 ⟨rfl, rfl⟩))
  go_ret
  exact ⟨rfl, rfl⟩
theorem athere_out {base p B n c : Nat} {th : Nat → Bool} {vr : Nat → Int} (id : Int) (hid : ¬ (0 ≤ id ∧ id < n)) (w : World) (hA : ArAt w base p B n c th vr) : Calls Tryz.prog 63 #[.pointer (some ⟨p, 0, none⟩), .int .i64 id] w fun e w' => e = .returned (.bool false) ∧ w = w' := by
  have HA := Lib.hid hA
  have HK : Hid (decide (0 ≤ id ∧ id < n) = false) := Lib.hid (decide_eq_false hid)
  clear hA hid
  go_enter Tryz.func63, Tryz.ntmps63
  go_wp2_with (first | (go_at_call 94; (with_reducible refine (ahas_is _ false HK _ HA.out).mono ?_); rintro e w1 ⟨rfl, rfl⟩))
  go_ret
  exact ⟨rfl, rfl⟩
theorem athere_is {base p B n c : Nat} {th : Nat → Bool} {vr : Nat → Int} (id : Int) (t : Bool) (ht : Hid (thereB n th id = t)) (w : World) (hA : ArAt w base p B n c th vr) : Calls Tryz.prog 63 #[.pointer (some ⟨p, 0, none⟩), .int .i64 id] w fun e w' => e = .returned (.bool t) ∧ w = w' := by
  have ht := ht.out
  unfold thereB at ht
  by_cases h : 0 ≤ id ∧ id < n
  · obtain ⟨k, rfl⟩ : ∃ k : Nat, id = k := ⟨id.toNat, by omega⟩
    rw [decide_eq_true h, Bool.true_and, Int.toNat_natCast] at ht
    exact athere_in k (by omega) t (Lib.hid ht) w hA
  · rw [decide_eq_false h, Bool.false_and] at ht
    subst ht
    exact athere_out id h w hA
theorem alive_is {base p B n c : Nat} {th : Nat → Bool} {vr : Nat → Int} (id v : Int) (t : Bool) (ht : Hid ((thereB n th id && (vr id.toNat == v)) = t)) (w : World) (hA : ArAt w base p B n c th vr) : Calls Tryz.prog 67 #[.pointer (some ⟨p, 0, none⟩), .int .i64 id, .int .i64 v] w fun e w' => e = .returned (.bool t) ∧ w = w' := by
  have HA := Lib.hid hA
  have ht := ht.out
  cases hb : thereB n th id
  · rw [hb, Bool.false_and] at ht
    subst ht
    have HB := Lib.hid hb
    clear hb hA
    go_enter Tryz.func67, Tryz.ntmps67
    go_wp2_with (first | (go_at_call 63; (with_reducible refine (athere_is _ false HB _ HA.out).mono ?_); rintro e w1 ⟨rfl, rfl⟩))
    go_ret
    exact ⟨rfl, rfl⟩
  · rw [hb, Bool.true_and] at ht
    have hr : 0 ≤ id ∧ id < n := by
      unfold thereB at hb
      simp only [Bool.and_eq_true, decide_eq_true_eq] at hb
      exact hb.1
    obtain ⟨k, rfl⟩ : ∃ k : Nat, id = k := ⟨id.toNat, by omega⟩
    rw [Int.toNat_natCast] at ht
    have hf := hA.fld
    have h1 := hA.at1 k (by omega)
    have k0 : (0 : Int) ≤ k := by omega
    have k1 : (k : Int) < n := by omega
    have HB := Lib.hid hb
    generalize vr k = x at ht h1
    clear hb hA hr
    go_enter Tryz.func67, Tryz.ntmps67
    go_wp2_with (first | (go_at_call 63; (with_reducible refine (athere_is _ true HB _ HA.out).mono ?_); rintro e w1 ⟨rfl, rfl⟩))
    go_ret
    exact ⟨by rw [← ht]; rfl, rfl⟩
theorem acap_is {base p B n c : Nat} {th : Nat → Bool} {vr : Nat → Int} (w : World) (hA : ArAt w base p B n c th vr) : Calls Tryz.prog 106 #[.pointer (some ⟨p, 0, none⟩)] w fun e w' => e = .returned (.int .i64 n) ∧ w = w' := by
  have hf := hA.fld
  clear hA
  go_enter Tryz.func106, Tryz.ntmps106
  go_wp2
  go_ret
  exact ⟨rfl, rfl⟩
theorem aver_in {base p B n c : Nat} {th : Nat → Bool} {vr : Nat → Int} (k : Nat) (hk : k < n) (v : Int) (hv : Hid (vr k = v)) (w : World) (hA : ArAt w base p B n c th vr) : Calls Tryz.prog 58 #[.pointer (some ⟨p, 0, none⟩), .int .i64 k] w fun e w' => e = .returned (.int .i64 v) ∧ w = w' := by
  have hf := hA.fld
  have h1 := hA.at1 k hk
  rw [hv.out] at h1
  have HA := Lib.hid hA
  have HK : Hid (decide (0 ≤ (k : Int) ∧ (k : Int) < n) = true) := Lib.hid (decide_eq_true (by omega))
  have k0 : (0 : Int) ≤ k := by omega
  have k1 : (k : Int) < n := by omega
  clear hA hv
  go_enter Tryz.func58, Tryz.ntmps58
  go_wp2_with (first | (go_at_call 94; (with_reducible refine (ahas_is _ true HK _ HA.out).mono ?_); rintro e w1 ⟨rfl, rfl⟩))
  go_ret
  exact ⟨rfl, rfl⟩
theorem afree_is (t : Bool) (v : Int) (r : Bool) (hr : Hid ((!t && decide (v ≤ 1048575)) = r)) (w : World) : Calls Tryz.prog 97 #[.agg #[.bool t, .int .i64 v]] w fun e w' => e = .returned (.bool r) ∧ Below w.heap.size w w' := by
  have hr := hr.out
  cases t
  · cases r
    · have d : decide (v ≤ 1048575) = false := by simpa using hr
      clear hr
      go_enter Tryz.func97, Tryz.ntmps97
      go_wp2
      go_ret
      exact ⟨rfl, (Below.refl _ _).alloc (Nat.le_refl _) _⟩
    · have d : decide (v ≤ 1048575) = true := by simpa using hr
      clear hr
      go_enter Tryz.func97, Tryz.ntmps97
      go_wp2
      go_ret
      exact ⟨rfl, (Below.refl _ _).alloc (Nat.le_refl _) _⟩
  · obtain rfl : r = false := by simpa using hr.symm
    clear hr
    go_enter Tryz.func97, Tryz.ntmps97
    go_wp2
    go_ret
    exact ⟨rfl, (Below.refl _ _).alloc (Nat.le_refl _) _⟩
end Go.Proofs.YtncopdhhchmpeaaGreatDoor
