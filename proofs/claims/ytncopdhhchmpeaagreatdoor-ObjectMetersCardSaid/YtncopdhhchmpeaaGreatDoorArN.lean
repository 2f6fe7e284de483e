/-
  turnkeyworld.Number; chapter 4's first.
-/
import Derived.Test.YtncopdhhchmpeaaGreatDoorAr4
namespace Go.Proofs.YtncopdhhchmpeaaGreatDoor
open Go.ChangeShapes Go.WideShapes Go.ChangeAt Go.RowKit
set_option linter.unusedVariables false
theorem ret_i64 {a b : Int} (h : a = b) : Ending.returned (.int .i64 a) = .returned (.int .i64 b) := by rw [h]
theorem number_is (n m r : Int) (hm0 : 0 < m) (hm : m ≤ 1000) (h1 : -9223372036854775808 ≤ n) (h2 : n ≤ 9223372036854775807) (hr : Hid (n % m = r)) (w : World) :
    Calls Tryz.prog 14 #[.int .i64 n, .int .i64 m] w fun e w' => e = .returned (.int .i64 r) ∧ w = w' := by
  have e0 := Int.emod_nonneg n (show m ≠ 0 by omega)
  have e1 := Int.emod_lt_of_pos n hm0
  by_cases hn : 0 ≤ n
  · have hd : decide (n % m < 0) = false := decide_eq_false (by omega)
    have hm1 : 1 ≤ m := by omega
    go_enter Tryz.func14, Tryz.ntmps14
    go_wp2
    go_ret
    exact ⟨ret_i64 hr.out, rfl⟩
  · have ht := Int.tmod_eq_emod (a := n) (b := m)
    have hm1 : 1 ≤ m := by omega
    by_cases hdv : m ∣ n
    · rw [if_pos (Or.inr hdv)] at ht
      have hz := Int.emod_eq_zero_of_dvd hdv
      have ht2 : n.tmod m = 0 := by omega
      have hr0 : Hid (0 = r) := Lib.hid (by rw [← hr.out, hz])
      clear ht hz hdv e0 e1
      go_enter Tryz.func14, Tryz.ntmps14
      go_wp2
      go_ret
      exact ⟨ret_i64 hr0.out, rfl⟩
    · rw [if_neg (by omega)] at ht
      have hnz : n % m ≠ 0 := fun e => hdv (Int.dvd_of_emod_eq_zero e)
      obtain ⟨t, ht2⟩ : ∃ t, n.tmod m = t := ⟨_, rfl⟩
      have hab : (m.natAbs : Int) = m := by omega
      have hlt : t < 0 := by omega
      have hge : -1000 ≤ t := by omega
      have hr0 : Hid (t + m = r) := Lib.hid (by rw [← hr.out]; omega)
      have hd : decide (t < 0) = true := decide_eq_true hlt
      clear ht hdv e0 e1 hnz hab
      go_enter Tryz.func14, Tryz.ntmps14
      go_wp2
      go_ret
      exact ⟨ret_i64 hr0.out, rfl⟩
theorem ArAt.congr {w : World} {base p B n c : Nat} {th th' : Nat → Bool} {vr vr' : Nat → Int} (h : ArAt w base p B n c th vr) (h1 : ∀ i, i < n → th i = th' i) (h2 : ∀ i, i < n → vr i = vr' i) : ArAt w base p B n c th' vr' :=
  ⟨h.pl, h.pb, h.fld, by rw [← plc_congr n h1 h2]; exact h.own, h.ne, h.le⟩
/-- Below the start: what a change of the arena's own row leaves. -/
theorem below_grown {w0 w w' : World} {B : Nat} (h : Below w0.heap.size w0 w) (hg : w.grownBy w' (some B)) (hB : w0.heap.size ≤ B) : Below w0.heap.size w0 w' :=
  h.grown hg h.size (fun k hk => by injection hk with e; omega)
theorem atake_at {base p B n c : Nat} {th : Nat → Bool} {vr : Nat → Int} (id : Int) (w : World) (hA : ArAt w base p B n c th vr) (j : Nat) (hid : Hid (id = j)) (hj : j < n) (hyes : Hid (freeB th vr j = true)) (hno : Hid (∀ i, i < j → freeB th vr i = false)) (v : Int) (hv : Hid (vr j = v)) :
    Calls Tryz.prog 65 #[.pointer (some ⟨p, 0, none⟩)] w fun e w' => e = .returned (.tuple #[.int .i64 id, .int .i64 v, .nilIface]) ∧ ArAt w' base p B n c (upd th j true) vr ∧ w.grownBy w' (some B) := by
  rw [hid.out]; exact atake_ok w hA j hj hyes hno v hv
theorem agive_at {base p B n c : Nat} {th : Nat → Bool} {vr : Nat → Int} (id : Int) (w : World) (hA : ArAt w base p B n c th vr) (j : Nat) (hid : Hid (id = j)) (hj : j < n) (hyes : Hid (th j = true)) (v v2 : Int) (hv : Hid (vr j = v)) (v0 : -1000000000 ≤ v) (v1 : v ≤ 1000000000) (hv2 : Hid (v + 1 = v2)) :
    Calls Tryz.prog 72 #[.pointer (some ⟨p, 0, none⟩), .int .i64 id] w fun e w' => e = .returned .nilIface ∧ ArAt w' base p B n c (upd th j false) (upd vr j v2) ∧ w.grownBy w' (some B) := by
  rw [hid.out, ← hv2.out]; exact agive_ok w hA j hj hyes v hv v0 v1
end Go.Proofs.YtncopdhhchmpeaaGreatDoor
