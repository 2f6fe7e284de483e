/-
  package asm: decimal, nameOf, value without names.
-/
import Derived.Test.YtaekccgcnlepaaaGreatDoorAs
namespace Go.Proofs.YtaekccgcnlepaaaGreatDoor
open Go.ChangeShapes Go.WideShapes Go.ChangeAt Go.RowKit
set_option linter.unusedVariables false
set_option linter.unusedSimpArgs false
/-- An error by its number; none: nil. -/
def erV (A : Nat → Addr) : Option Nat → Value
  | none => .nilIface
  | some j => errC (sA A j)
/-- What a word says as a number: the number, the error's. -/
def decS2 (l : List UInt8) : Int × Option Nat := match numL l with | some n => ((n : Int), none) | none => (0, some 11)
theorem dec_is {A : Nat → Addr} (s : ByteArray) (hs : s.size ≤ 1000000) (n : Int) (o : Option Nat) (h : Hid (decS2 s.data.toList = (n, o))) (w : World) (hA : AsmAt A w) :
    Calls Tryz.prog 30 #[.string s] w fun e w' => e = .returned (.tuple #[.int .i64 n, erV A o]) ∧ Below w.heap.size w w' := by
  have hh := h.out
  unfold decS2 at hh
  cases hq : numL s.data.toList with
  | some m =>
    rw [hq] at hh
    obtain ⟨rfl, rfl⟩ := Prod.mk.inj hh
    have HN := Lib.hid hq
    clear hh hq hA
    go_enter Tryz.func30, Tryz.ntmps30
    go_wp2_with (first
      | (go_at_call 54; (with_reducible refine (tnum_yes s m HN _).mono ?_); rintro e w1 ⟨rfl, hb⟩; have HB := Lib.hid hb; clear hb))
    go_ret2
    exact ⟨rfl, HB.out⟩
  | none =>
    rw [hq] at hh
    obtain ⟨rfl, rfl⟩ := Prod.mk.inj hh
    have HN := Lib.hid hq
    have HA := Lib.hid hA
    clear hh hq hA
    go_enter Tryz.func30, Tryz.ntmps30
    go_wp2_with (first
      | (go_at_call 54; (with_reducible refine (tnum_no s hs HN _).mono ?_); rintro e w1 ⟨rfl, hb⟩; have HB := Lib.hid hb; have c11 := (HA.out.sen.below hb).c11; clear hb))
    go_quiet (fail)
    go_wp2
    go_ret2
    exact ⟨rfl, below_dN2 HB.out _⟩
/-- Which of the names. -/
def nmS (tb : List (List UInt8)) (l : List UInt8) : Int × Option Nat := match idxL tb l with | some i => ((i : Int), none) | none => (0, some 10)
set_option maxRecDepth 100000 in
set_option maxHeartbeats 1000000 in
theorem nmof_w {A : Nat → Addr} (s : ByteArray) (n : Int) (o : Option Nat) (h : Hid (nmS wNm s.data.toList = (n, o))) (w : World) (hA : AsmAt A w) :
    Calls Tryz.prog 74 #[.string s, .int .i64 12, .func (.func 67) #[] #[]] w fun e w' => e = .returned (.tuple #[.int .i64 n, erV A o]) ∧ Below w.heap.size w w' := by
  have HA := Lib.hid hA
  clear hA
  go_enter Tryz.func74, Tryz.ntmps74
  go_wp2_with fail
  go_loopw [10] (fun i wr => ∃ k : Nat, k ≤ 12 ∧ i = .int .i64 k ∧ Below w.heap.size w wr ∧ ∀ i, i < k → wNm.getD i [] ≠ s.data.toList) (fun i _ => 12 - (intOf i).toNat)
  case atStart => exact ⟨0, by omega, rfl, Below.refl _ _, fun i hi => by omega⟩
  case round =>
    obtain ⟨k, hk, rfl, hb, hno⟩ := hrel
    have HB := Lib.hid hb
    have HNo := Lib.hid hno
    by_cases hlt : k < 12
    · have k0 : (0 : Int) ≤ (k : Int) := by omega
      have k1 : (k : Int) < 12 := by omega
      obtain ⟨nm, hnm⟩ : ∃ nm : ByteArray, nm = ⟨(wNm.getD k []).toArray⟩ := ⟨_, rfl⟩
      have HNm : Hid (nm.toList = wNm.getD k []) := Lib.hid (by rw [hnm, Lib.toList_data])
      have HS := Lib.hid hnm.symm
      have HT := Lib.hid (HA.out.tells.below hb)
      clear hb hno hnm
      by_cases heq : wNm.getD k [] = s.data.toList
      · have e0 : (nm.toList == s.toList) = true := by rw [HNm.out, Lib.toList_data, heq]; simp
        have HR : Hid (n = (k : Int) ∧ o = none) := Lib.hid (by
          have hh := h.out
          unfold nmS at hh
          rw [idx_at wNm s.data.toList k hlt HNo.out heq] at hh
          exact ⟨(Prod.mk.inj hh).1.symm, (Prod.mk.inj hh).2.symm⟩)
        clear heq
        go_wp2_with (first
          | (go_at_call 67; (with_reducible refine (wname2 k hlt nm HS _ HT.out).mono ?_); rintro e w1 ⟨rfl, rfl⟩))
        go_ret2
        exact ⟨by rw [HR.out.1, HR.out.2]; rfl, HB.out⟩
      · have e0 : (nm.toList == s.toList) = false := by rw [HNm.out, Lib.toList_data, beq_eq_false_iff_ne]; exact heq
        have HNo2 : Hid (∀ i, i < k + 1 → wNm.getD i [] ≠ s.data.toList) := Lib.hid (fun i hi => by
          by_cases e : i = k
          · rw [e]; exact heq
          · exact HNo.out i (by omega))
        clear heq
        go_wp2_with (first
          | (go_at_call 67; (with_reducible refine (wname2 k hlt nm HS _ HT.out).mono ?_); rintro e w1 ⟨rfl, rfl⟩))
        go_roundw
        case rel => exact ⟨k + 1, by omega, by go_num, HB.out, HNo2.out⟩
        case measure => simp [intOf]; omega
    · obtain rfl : k = 12 := by omega
      have HR : Hid (n = 0 ∧ o = some 10) := Lib.hid (by
        have hh := h.out
        unfold nmS at hh
        rw [idx_no wNm s.data.toList hno] at hh
        exact ⟨(Prod.mk.inj hh).1.symm, (Prod.mk.inj hh).2.symm⟩)
      have c10 := (HA.out.sen.below hb).c10
      clear hb hno
      go_wp2_with fail
      go_quiet (fail)
      go_wp2
      go_ret2
      exact ⟨by rw [HR.out.1, HR.out.2]; rfl, below_dN2 HB.out _⟩
theorem man_is {A : Nat → Addr} (k : Nat) (hk : k < 3) (s : ByteArray) (hs : Hid ((⟨(mNm.getD k []).toArray⟩ : ByteArray) = s)) (w : World) (hA : AsmAt A w) :
    Calls Tryz.prog 75 #[.int .i64 (k : Int)] w fun e w' => e = .returned (.string s) ∧ w = w' := by
  have hc := hA.mat k hk
  rw [hs.out] at hc
  have k0 : (0 : Int) ≤ (k : Int) := by omega
  have k1 : (k : Int) < 3 := by omega
  clear hA
  go_enter Tryz.func75, Tryz.ntmps75
  go_wp2
  go_ret
  exact ⟨rfl, rfl⟩
set_option maxRecDepth 100000 in
set_option maxHeartbeats 1000000 in
theorem nmof_m {A : Nat → Addr} (s : ByteArray) (n : Int) (o : Option Nat) (h : Hid (nmS mNm s.data.toList = (n, o))) (w : World) (hA : AsmAt A w) :
    Calls Tryz.prog 74 #[.string s, .int .i64 3, .func (.func 75) #[] #[]] w fun e w' => e = .returned (.tuple #[.int .i64 n, erV A o]) ∧ Below w.heap.size w w' := by
  have HA := Lib.hid hA
  clear hA
  go_enter Tryz.func74, Tryz.ntmps74
  go_wp2_with fail
  go_loopw [10] (fun i wr => ∃ k : Nat, k ≤ 3 ∧ i = .int .i64 k ∧ Below w.heap.size w wr ∧ ∀ i, i < k → mNm.getD i [] ≠ s.data.toList) (fun i _ => 3 - (intOf i).toNat)
  case atStart => exact ⟨0, by omega, rfl, Below.refl _ _, fun i hi => by omega⟩
  case round =>
    obtain ⟨k, hk, rfl, hb, hno⟩ := hrel
    have HB := Lib.hid hb
    have HNo := Lib.hid hno
    by_cases hlt : k < 3
    · have k0 : (0 : Int) ≤ (k : Int) := by omega
      have k1 : (k : Int) < 3 := by omega
      obtain ⟨nm, hnm⟩ : ∃ nm : ByteArray, nm = ⟨(mNm.getD k []).toArray⟩ := ⟨_, rfl⟩
      have HNm : Hid (nm.toList = mNm.getD k []) := Lib.hid (by rw [hnm, Lib.toList_data])
      have HS := Lib.hid hnm.symm
      have HT := Lib.hid (HA.out.below hb)
      clear hb hno hnm
      by_cases heq : mNm.getD k [] = s.data.toList
      · have e0 : (nm.toList == s.toList) = true := by rw [HNm.out, Lib.toList_data, heq]; simp
        have HR : Hid (n = (k : Int) ∧ o = none) := Lib.hid (by
          have hh := h.out
          unfold nmS at hh
          rw [idx_at mNm s.data.toList k hlt HNo.out heq] at hh
          exact ⟨(Prod.mk.inj hh).1.symm, (Prod.mk.inj hh).2.symm⟩)
        clear heq
        go_wp2_with (first
          | (go_at_call 75; (with_reducible refine (man_is k hlt nm HS _ HT.out).mono ?_); rintro e w1 ⟨rfl, rfl⟩))
        go_ret2
        exact ⟨by rw [HR.out.1, HR.out.2]; rfl, HB.out⟩
      · have e0 : (nm.toList == s.toList) = false := by rw [HNm.out, Lib.toList_data, beq_eq_false_iff_ne]; exact heq
        have HNo2 : Hid (∀ i, i < k + 1 → mNm.getD i [] ≠ s.data.toList) := Lib.hid (fun i hi => by
          by_cases e : i = k
          · rw [e]; exact heq
          · exact HNo.out i (by omega))
        clear heq
        go_wp2_with (first
          | (go_at_call 75; (with_reducible refine (man_is k hlt nm HS _ HT.out).mono ?_); rintro e w1 ⟨rfl, rfl⟩))
        go_roundw
        case rel => exact ⟨k + 1, by omega, by go_num, HB.out, HNo2.out⟩
        case measure => simp [intOf]; omega
    · obtain rfl : k = 3 := by omega
      have HR : Hid (n = 0 ∧ o = some 10) := Lib.hid (by
        have hh := h.out
        unfold nmS at hh
        rw [idx_no mNm s.data.toList hno] at hh
        exact ⟨(Prod.mk.inj hh).1.symm, (Prod.mk.inj hh).2.symm⟩)
      have c10 := (HA.out.sen.below hb).c10
      clear hb hno
      go_wp2_with fail
      go_quiet (fail)
      go_wp2
      go_ret2
      exact ⟨by rw [HR.out.1, HR.out.2]; rfl, below_dN2 HB.out _⟩
end Go.Proofs.YtaekccgcnlepaaaGreatDoor
