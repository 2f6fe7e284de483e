/-
  package arena: Left, Take, Give.
-/
import Derived.Test.YtncopdhhchmpeaaGreatDoorAr2
namespace Go.Proofs.YtncopdhhchmpeaaGreatDoor
open Go.ChangeShapes Go.WideShapes Go.ChangeAt Go.RowKit
set_option linter.unusedVariables false
set_option maxRecDepth 100000 in
theorem aleft_is {base p B n c : Nat} {th : Nat → Bool} {vr : Nat → Int} (w : World) (hA : ArAt w base p B n c th vr) :
    Calls Tryz.prog 191 #[.pointer (some ⟨p, 0, none⟩)] w fun e w' => e = .returned (.int .i64 (cntB (freeB th vr) n)) ∧ Below w.heap.size w w' := by
  have HA := Lib.hid hA
  have hn := hA.le
  have hf := hA.fld
  clear hA
  go_enter Tryz.func191, Tryz.ntmps191
  go_wp2_with fail
  clear hf
  go_loopw [3, 11] (fun u i wr => ∃ k : Nat, k ≤ n ∧ i = .int .i64 k ∧ u = .int .i64 (cntB (freeB th vr) k) ∧ Below w.heap.size w wr) (fun _ i _ => n - (intOf i).toNat)
  case atStart => exact ⟨0, by omega, rfl, rfl, Below.refl _ _⟩
  case round =>
    obtain ⟨k, hk, rfl, rfl, hB⟩ := hrel
    have HB := Lib.hid hB
    by_cases hlt : k < n
    · have hw := HA.out.below hB
      have h0 := hw.at0 k hlt
      have h1 := hw.at1 k hlt
      have hc := cntB_le (freeB th vr) k
      have k0 : (0 : Int) ≤ k := by omega
      cases ht : freeB th vr k
      · have HC : Hid (cntB (freeB th vr) (k + 1) = cntB (freeB th vr) k) := Lib.hid (by rw [cntB, ht]; rfl)
        have HF : Hid ((!th k && decide (vr k ≤ 1048575)) = false) := Lib.hid ht
        generalize th k = t at h0 HF
        generalize vr k = v at h1 HF
        clear hw hB ht
        go_wp2_with (first | (go_at_call 97; (with_reducible refine (afree_is t v false HF _).mono ?_); rintro e w1 ⟨rfl, hb⟩; have HB2 := Lib.hid ((HB.out.alloc HB.out.size _).trans (hb.mono (by simp; have := HB.out.size; omega))); clear hb h0 h1))
        go_roundw
        case rel => exact ⟨k + 1, by omega, by go_num, by rw [HC.out], HB2.out⟩
        case measure => simp [intOf]; omega
      · have HC : Hid (cntB (freeB th vr) (k + 1) = cntB (freeB th vr) k + 1) := Lib.hid (by rw [cntB, ht]; rfl)
        have HF : Hid ((!th k && decide (vr k ≤ 1048575)) = true) := Lib.hid ht
        generalize th k = t at h0 HF
        generalize vr k = v at h1 HF
        clear hw hB ht
        go_wp2_with (first | (go_at_call 97; (with_reducible refine (afree_is t v true HF _).mono ?_); rintro e w1 ⟨rfl, hb⟩; have HB2 := Lib.hid ((HB.out.alloc HB.out.size _).trans (hb.mono (by simp; have := HB.out.size; omega))); clear hb h0 h1))
        go_roundw
        case rel => exact ⟨k + 1, by omega, by go_num, by rw [HC.out]; go_num, HB2.out⟩
        case measure => simp [intOf]; omega
    · obtain rfl : n = k := by omega
      have hdd : decide (n < n) = false := by simp
      clear hB
      go_wp2
      go_ret
      exact ⟨rfl, HB.out⟩
section
variable {w w' wi : World} {base p B n c : Nat} {th : Nat → Bool} {vr : Nat → Int}
theorem ArAt.set0 (h : ArAt w base p B n c th vr) (j : Nat) (hj : j < n) (x : Bool) : ArAt (w.setCell ⟨B, j * 2, none⟩ (.bool x)) base p B n c (upd th j x) vr := by
  refine ⟨by simpa using h.pl, h.pb, ?_, ?_, h.ne, h.le⟩
  · rw [World.cell?_setCell_other _ _ _ _ (by intro e; exact h.ne (congrArg Addr.block e).symm)]
    exact h.fld
  · rw [← plc_set0 th vr n j hj x]
    exact (h.own.stored (j * 2) (.bool x)).1
theorem ArAt.set1 (h : ArAt w base p B n c th vr) (j : Nat) (hj : j < n) (x : Int) : ArAt (w.setCell ⟨B, j * 2 + 1, none⟩ (.int .i64 x)) base p B n c th (upd vr j x) := by
  refine ⟨by simpa using h.pl, h.pb, ?_, ?_, h.ne, h.le⟩
  · rw [World.cell?_setCell_other _ _ _ _ (by intro e; exact h.ne (congrArg Addr.block e).symm)]
    exact h.fld
  · rw [← plc_set1 th vr n j hj x]
    exact (h.own.stored (j * 2 + 1) (.int .i64 x)).1
/-- What changed but block B is new. -/
theorem grown_set (hb : Below w.heap.size w wi) (h : ArAt wi base p B n c th vr) (j : Nat) (u : Value) : w.grownBy (wi.setCell ⟨B, j, none⟩ u) (some B) := by
  have hg := (h.own.stored j u).2
  exact ⟨hg.os.trans hb.os, hg.tape.trans hb.tape, hg.output.trans hb.output, Nat.le_trans hb.size hg.size, fun k hk hne => (hg.block k (Nat.lt_of_lt_of_le hk hb.size) hne).trans (hb.block k hk)⟩
theorem grown_then (hg : w.grownBy wi (some B)) (hb : Below wi.heap.size wi w') : w.grownBy w' (some B) :=
  ⟨hb.os.trans hg.os, hb.tape.trans hg.tape, hb.output.trans hg.output, Nat.le_trans hg.size hb.size, fun k hk hne => (hb.block k (Nat.lt_of_lt_of_le hk hg.size)).trans (hg.block k hk hne)⟩
theorem grown_more (hg : w.grownBy wi (some B)) (hg2 : wi.grownBy w' (some B)) : w.grownBy w' (some B) :=
  ⟨hg2.os.trans hg.os, hg2.tape.trans hg.tape, hg2.output.trans hg.output, Nat.le_trans hg.size hg2.size, fun k hk hne => (hg2.block k (Nat.lt_of_lt_of_le hk hg.size) hne).trans (hg.block k hk hne)⟩
end
set_option maxRecDepth 100000 in
theorem atake_ok {base p B n c : Nat} {th : Nat → Bool} {vr : Nat → Int} (w : World) (hA : ArAt w base p B n c th vr) (j : Nat) (hj : j < n) (hyes : Hid (freeB th vr j = true)) (hno : Hid (∀ i, i < j → freeB th vr i = false)) (v : Int) (hv : Hid (vr j = v)) :
    Calls Tryz.prog 65 #[.pointer (some ⟨p, 0, none⟩)] w fun e w' => e = .returned (.tuple #[.int .i64 j, .int .i64 v, .nilIface]) ∧ ArAt w' base p B n c (upd th j true) vr ∧ w.grownBy w' (some B) := by
  have HA := Lib.hid hA
  have hn := hA.le
  have hf := hA.fld
  have k0 : (0 : Int) ≤ j := by omega
  have k1 : (j : Int) < n := by omega
  clear hA
  go_enter Tryz.func65, Tryz.ntmps65
  go_wp2_with (first | (go_at_call 96; (with_reducible refine (aindex_at _ HA.out j hj hyes hno).mono ?_); rintro e wi ⟨rfl, hb⟩; have HW := Lib.hid (HA.out.below hb); have HB := Lib.hid hb; have hf1 := (HA.out.below hb).fld; have h0 := (HA.out.below hb).at0 j hj; have hz := (HA.out.below hb).own.frozenAt (j * 2); clear hf hb))
  have HS := Lib.hid (HW.out.set0 j hj true)
  have HG := Lib.hid (grown_set HB.out HW.out (j * 2) (.bool true))
  have hf2 := HS.out.fld
  have h2 := HS.out.at1 j hj
  rw [hv.out] at h2
  clear hf1 h0 hz
  go_quiet (fail)
  go_wp2_with fail
  go_ret3
  exact ⟨rfl, HS.out.below (below_drewN (Below.refl _ _) _), grown_then HG.out (below_drewN (Below.refl _ _) _)⟩
set_option maxRecDepth 100000 in
theorem atake_full {base p B n c : Nat} {th : Nat → Bool} {vr : Nat → Int} (w : World) (hA : ArAt w base p B n c th vr) (hno : Hid (∀ i, i < n → freeB th vr i = false)) (v : Value) (hE : w.cell? ⟨5, 0, none⟩ = some v) (hl : 5 < w.heap.size) :
    Calls Tryz.prog 65 #[.pointer (some ⟨p, 0, none⟩)] w fun e w' => e = .returned (.tuple #[.int .i64 0, .int .i64 0, v]) ∧ Below w.heap.size w w' := by
  have HA := Lib.hid hA
  have hf := hA.fld
  clear hA
  go_enter Tryz.func65, Tryz.ntmps65
  go_wp2_with (first | (go_at_call 96; (with_reducible refine (aindex_none _ HA.out hno).mono ?_); rintro e wi ⟨rfl, hb⟩; have HB := Lib.hid hb; have hE2 := (hb.cell (p := ⟨5, 0, none⟩) hl).trans hE; clear hf hb hE))
  go_quiet (fail)
  go_wp2_with fail
  go_ret3
  exact ⟨rfl, below_drewN HB.out _⟩
set_option maxRecDepth 100000 in
theorem agive_ok {base p B n c : Nat} {th : Nat → Bool} {vr : Nat → Int} (w : World) (hA : ArAt w base p B n c th vr) (j : Nat) (hj : j < n) (hyes : Hid (th j = true)) (v : Int) (hv : Hid (vr j = v)) (v0 : -1000000000 ≤ v) (v1 : v ≤ 1000000000) :
    Calls Tryz.prog 72 #[.pointer (some ⟨p, 0, none⟩), .int .i64 j] w fun e w' => e = .returned .nilIface ∧ ArAt w' base p B n c (upd th j false) (upd vr j (v + 1)) ∧ w.grownBy w' (some B) := by
  have HA := Lib.hid hA
  have hn := hA.le
  have hf := hA.fld
  have h0 := hA.at0 j hj
  have hz := hA.own.frozenAt (j * 2)
  have HS := Lib.hid (hA.set0 j hj false)
  have HG := Lib.hid (grown_set (Below.refl _ w) hA (j * 2) (.bool false))
  have hf2 := HS.out.fld
  have h2 := HS.out.at1 j hj
  rw [hv.out] at h2
  have hz2 := HS.out.own.frozenAt (j * 2 + 1)
  have HS2 := Lib.hid (HS.out.set1 j hj (v + 1))
  have HG2 := Lib.hid (grown_more HG.out (grown_set (Below.refl _ _) HS.out (j * 2 + 1) (.int .i64 (v + 1))))
  have HK : Hid (thereB n th (j : Int) = true) := Lib.hid (by unfold thereB; rw [Int.toNat_natCast, hyes.out, decide_eq_true (by omega)]; rfl)
  have k0 : (0 : Int) ≤ j := by omega
  have k1 : (j : Int) < n := by omega
  clear hA
  go_enter Tryz.func72, Tryz.ntmps72
  go_wp2_with (first | (go_at_call 63; (with_reducible refine (athere_is _ true HK _ HA.out).mono ?_); rintro e w1 ⟨rfl, rfl⟩))
  go_ret
  exact ⟨rfl, HS2.out, HG2.out⟩
theorem agive_no {base p B n c : Nat} {th : Nat → Bool} {vr : Nat → Int} (id : Int) (w : World) (hA : ArAt w base p B n c th vr) (hno : Hid (thereB n th id = false)) (v : Value) (hE : w.cell? ⟨0, 0, none⟩ = some v) :
    Calls Tryz.prog 72 #[.pointer (some ⟨p, 0, none⟩), .int .i64 id] w fun e w' => e = .returned v ∧ w = w' := by
  have HA := Lib.hid hA
  clear hA
  go_enter Tryz.func72, Tryz.ntmps72
  go_wp2_with (first | (go_at_call 63; (with_reducible refine (athere_is _ false hno _ HA.out).mono ?_); rintro e w1 ⟨rfl, rfl⟩))
  go_ret
  exact ⟨rfl, rfl⟩
end Go.Proofs.YtncopdhhchmpeaaGreatDoor
