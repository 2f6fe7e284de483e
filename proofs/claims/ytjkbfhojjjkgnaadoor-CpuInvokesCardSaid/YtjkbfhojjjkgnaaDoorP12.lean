/-
  Code, CodeW, Cl, Ua, Ub, Uc, Ud, Ue, Uf, Ug as one.
-/
import Derived.Test.YtjkbfhojjjkgnaaDoorErrs
import Derived.Outline
import Derived.Deep.RegionWith
import Derived.Deep.RegionHeld3
import Derived.Deep.QuietTactic
import Derived.BigQuiet
import Derived.WalkLawsBesides
import Derived.WalkSpells
import Derived.Laws.BitsAllLaws
import Derived.Test.YtjkbfhojjjkgnaaDoorP11
import Derived.Test.YtjkbfhojjjkgnaaDoorValidA
import Derived.Test.YtjkbfhojjjkgnaaDoorP10
import Derived.Deep.MidRow
namespace Go.Proofs.YtjkbfhojjjkgnaaDoor
open Go.ChangeShapes Go.WideShapes Go.ChangeAt Go.RowKit
set_option linter.unusedVariables false
theorem bcellC {W w1 : World} (hb : Below W.heap.size W w1) : (∀ b o, b < W.heap.size → w1.cell? ⟨b, o, none⟩ = W.cell? ⟨b, o, none⟩) ∧ (∀ b o, b < W.heap.size → w1.frozen? ⟨b, o, none⟩ = W.frozen? ⟨b, o, none⟩) :=
  ⟨fun b o h => hb.cell (p := ⟨b, o, none⟩) h, fun b o h => hb.frozen (p := ⟨b, o, none⟩) h⟩
theorem keep5C {W w' : World} {b : Nat} {k0 k1 k2 k3 k4 : Int} (h : b < W.heap.size ∧ W.cell? ⟨b, 0, none⟩ = some (.int .i64 k0) ∧ W.cell? ⟨b, 1, none⟩ = some (.int .i64 k1) ∧ W.cell? ⟨b, 2, none⟩ = some (.int .i64 k2) ∧ W.cell? ⟨b, 3, none⟩ = some (.int .i64 k3) ∧ W.cell? ⟨b, 4, none⟩ = some (.int .i64 k4)) (hb : Below W.heap.size W w') : b < w'.heap.size ∧ w'.cell? ⟨b, 0, none⟩ = some (.int .i64 k0) ∧ w'.cell? ⟨b, 1, none⟩ = some (.int .i64 k1) ∧ w'.cell? ⟨b, 2, none⟩ = some (.int .i64 k2) ∧ w'.cell? ⟨b, 3, none⟩ = some (.int .i64 k3) ∧ w'.cell? ⟨b, 4, none⟩ = some (.int .i64 k4) := by
  obtain ⟨h2, h3, h4, h5, h6, h7⟩ := h
  have hc := (bcellC hb).1
  have hz := hb.size
  exact ⟨by omega, by rw [hc _ _ h2]; exact h3, by rw [hc _ _ h2]; exact h4, by rw [hc _ _ h2]; exact h5, by rw [hc _ _ h2]; exact h6, by rw [hc _ _ h2]; exact h7⟩
/-- What a field of each kind may be at most. -/
def hiOf (f : Int) : Int := if f = 1 then 7 else if f = 2 then 15 else if f = 3 then 4095 else if f = 4 then 11 else if f = 5 then 2 else 0
theorem highest_any (f m : Int) (h : Hid (hiOf f = m)) (w : World) : Calls Tryd.prog 86 #[.int .i64 f] w fun e w' => e = .returned (.int .i64 m) ∧ w = w' := by
  by_cases h1 : f = 1 ∨ f = 2 ∨ f = 3 ∨ f = 4 ∨ f = 5
  · rcases h1 with rfl | rfl | rfl | rfl | rfl
    all_goals
      rw [← h.out]
      go_enter Tryd.func86, Tryd.ntmps86
      go_wp2
      go_ret
      exact ⟨rfl, rfl⟩
  · have e : m = 0 := by rw [← h.out]; unfold hiOf; repeat' split
                         all_goals omega
    subst e
    have b1 : (f == 1) = false := by simp; omega
    have b2 : (f == 2) = false := by simp; omega
    have b3 : (f == 3) = false := by simp; omega
    have b4 : (f == 4) = false := by simp; omega
    have b5 : (f == 5) = false := by simp; omega
    go_enter Tryd.func86, Tryd.ntmps86
    go_wp2
    go_ret
    exact ⟨rfl, rfl⟩
def fitB (n f : Int) : Bool := decide (0 ≤ n ∧ n ≤ hiOf f)
theorem fits_any (n f : Int) (b : Bool) (h : Hid (fitB n f = b)) (w : World) : Calls Tryd.prog 66 #[.int .i64 n, .int .i64 f] w fun e w' => e = .returned (.bool b) ∧ w = w' := by
  obtain ⟨m, hm⟩ : ∃ m, Hid (hiOf f = m) := ⟨_, Lib.hid rfl⟩
  have hb := h.out
  unfold fitB at hb
  rw [hm.out] at hb
  cases b
  · rw [decide_eq_false_iff_not] at hb
    by_cases h0 : 0 ≤ n
    · have d : decide (n ≤ m) = false := by rw [decide_eq_false_iff_not]; omega
      have d0 : decide (0 ≤ n) = true := by rw [decide_eq_true_iff]; exact h0
      clear hb
      go_enter Tryd.func66, Tryd.ntmps66
      go_wp2_with (first | (go_at_call 86; refine (highest_any f m hm _).mono ?_; rintro e w1 ⟨rfl, rfl⟩))
      go_ret
      exact ⟨rfl, rfl⟩
    · have d0 : decide (0 ≤ n) = false := by rw [decide_eq_false_iff_not]; exact h0
      clear hb
      go_enter Tryd.func66, Tryd.ntmps66
      go_wp2_with (first | (go_at_call 86; refine (highest_any f m hm _).mono ?_; rintro e w1 ⟨rfl, rfl⟩))
      go_ret
      exact ⟨rfl, rfl⟩
  · rw [decide_eq_true_iff] at hb
    have d : decide (n ≤ m) = true := by rw [decide_eq_true_iff]; omega
    have d0 : decide (0 ≤ n) = true := by rw [decide_eq_true_iff]; omega
    clear hb
    go_enter Tryd.func66, Tryd.ntmps66
    go_wp2_with (first | (go_at_call 86; refine (highest_any f m hm _).mono ?_; rintro e w1 ⟨rfl, rfl⟩))
    go_ret
    exact ⟨rfl, rfl⟩
/-- The forms, as the chapter's table has them: name, and what A, B, C, Imm are. -/
def fNm : List (List UInt8) := [[], [108, 105], [108, 105, 104], [97, 108, 117], [106, 109, 112], [106, 122], [108, 111, 97, 100], [115, 97, 118, 101], [107, 109, 111, 118, 101], [107, 110, 117, 109], [107, 103, 101, 116], [105, 110, 118], [121, 105, 101, 108, 100], [104, 97, 108, 116]]
def fA : List Int := [0, 1, 1, 1, 0, 1, 1, 1, 2, 2, 1, 5, 0, 0]
def fB : List Int := [0, 0, 0, 1, 0, 0, 1, 1, 2, 1, 2, 2, 0, 0]
def fC : List Int := [0, 0, 0, 1, 0, 0, 0, 0, 0, 0, 0, 2, 0, 0]
def fI : List Int := [0, 3, 3, 4, 3, 3, 3, 3, 0, 0, 0, 0, 0, 0]
def nmC (n : Nat) : ByteArray := ⟨(fNm.getD n []).toArray⟩
structure Forms (w : World) : Prop where
  lt : 2 < w.heap.size
  at0 : ∀ n, n < 14 → w.cell? ⟨2, n * 5, none⟩ = some (.string (nmC n))
  at1 : ∀ n, n < 14 → w.cell? ⟨2, n * 5 + 1, none⟩ = some (.int .i64 (fA.getD n 0))
  at2 : ∀ n, n < 14 → w.cell? ⟨2, n * 5 + 2, none⟩ = some (.int .i64 (fB.getD n 0))
  at3 : ∀ n, n < 14 → w.cell? ⟨2, n * 5 + 3, none⟩ = some (.int .i64 (fC.getD n 0))
  at4 : ∀ n, n < 14 → w.cell? ⟨2, n * 5 + 4, none⟩ = some (.int .i64 (fI.getD n 0))
theorem Forms.below {w w' : World} (h : Forms w) (hb : Below w.heap.size w w') : Forms w' :=
  ⟨Nat.lt_of_lt_of_le h.lt hb.size, fun n hn => (hb.cell (p := ⟨2, n * 5, none⟩) h.lt).trans (h.at0 n hn), fun n hn => (hb.cell (p := ⟨2, n * 5 + 1, none⟩) h.lt).trans (h.at1 n hn), fun n hn => (hb.cell (p := ⟨2, n * 5 + 2, none⟩) h.lt).trans (h.at2 n hn), fun n hn => (hb.cell (p := ⟨2, n * 5 + 3, none⟩) h.lt).trans (h.at3 n hn), fun n hn => (hb.cell (p := ⟨2, n * 5 + 4, none⟩) h.lt).trans (h.at4 n hn)⟩
/-- One form, with letters. -/
def FormAt (n : Nat) (s : ByteArray) (fa fb fc fi : Int) (w : World) : Prop := w.cell? ⟨2, n * 5, none⟩ = some (.string s) ∧ w.cell? ⟨2, n * 5 + 1, none⟩ = some (.int .i64 fa) ∧ w.cell? ⟨2, n * 5 + 2, none⟩ = some (.int .i64 fb) ∧ w.cell? ⟨2, n * 5 + 3, none⟩ = some (.int .i64 fc) ∧ w.cell? ⟨2, n * 5 + 4, none⟩ = some (.int .i64 fi)
theorem Forms.one {w : World} (h : Forms w) (n : Nat) (hn : n < 14) : FormAt n (nmC n) (fA.getD n 0) (fB.getD n 0) (fC.getD n 0) (fI.getD n 0) w := ⟨h.at0 n hn, h.at1 n hn, h.at2 n hn, h.at3 n hn, h.at4 n hn⟩
theorem FormAt.alloc {n : Nat} {s : ByteArray} {fa fb fc fi : Int} {w : World} (h : FormAt n s fa fb fc fi w) (hl : 2 < w.heap.size) (o : Obj) : FormAt n s fa fb fc fi (w.alloc o) := by
  unfold FormAt at *
  have e : ∀ j, (w.alloc o).cell? ⟨2, j, none⟩ = w.cell? ⟨2, j, none⟩ := fun j => World.cell?_alloc_lt w _ ⟨2, j, none⟩ hl
  simpa only [e] using h
set_option maxRecDepth 100000 in
theorem cvalid_ok (n : Nat) (hn1 : 1 ≤ n) (hn : n ≤ 13) (s : ByteArray) (fa fb fc fi : Int) (a b c i : Int) (w : World) (hl : 2 < w.heap.size) (hF : FormAt n s fa fb fc fi w) (ha : Hid (fitB a fa = true)) (hb : Hid (fitB b fb = true)) (hc : Hid (fitB c fc = true)) (hi : Hid (fitB i fi = true)) : Calls Tryd.prog 46 #[.agg #[.int .i64 n, .int .i64 a, .int .i64 b, .int .i64 c, .int .i64 i]] w fun e w' => e = .returned .nilIface ∧ Below w.heap.size w w' := by
  have hF' := hF.alloc hl (.cells #[.int .i64 n, .int .i64 a, .int .i64 b, .int .i64 c, .int .i64 i] 57); obtain ⟨q0, q1, q2, q3, q4⟩ := hF'; clear hF; have b1 : decide ((n : Int) < 1) = false := by { rw [decide_eq_false_iff_not]; omega }; have b2 : decide ((13 : Int) < (n : Int)) = false := by { rw [decide_eq_false_iff_not]; omega }
  go_enter Tryd.func46, Tryd.ntmps46
  go_wp2_with (first | (go_at_call 66; (with_reducible refine (fits_any a fa true ha _).mono ?_); rintro e w1 ⟨rfl, rfl⟩) | (go_at_call 66; (with_reducible refine (fits_any b fb true hb _).mono ?_); rintro e w1 ⟨rfl, rfl⟩) | (go_at_call 66; (with_reducible refine (fits_any c fc true hc _).mono ?_); rintro e w1 ⟨rfl, rfl⟩) | (go_at_call 66; (with_reducible refine (fits_any i fi true hi _).mono ?_); rintro e w1 ⟨rfl, rfl⟩))
  go_ret
  exact ⟨rfl, ((Below.refl _ _).alloc (Nat.le_refl _) _).alloc (by simp) _⟩
set_option maxRecDepth 100000 in
theorem cvalid_b0 (n : Nat) (hn1 : 1 ≤ n) (hn : n ≤ 13) (s : ByteArray) (fa fb fc fi : Int) (a b c i : Int) (w : World) (hl : 2 < w.heap.size) (hF : FormAt n s fa fb fc fi w) (v : Value) (hE : w.cell? ⟨3, 0, none⟩ = some v) (hEl : 3 < w.heap.size) (ha : Hid (fitB a fa = false)) : Calls Tryd.prog 46 #[.agg #[.int .i64 n, .int .i64 a, .int .i64 b, .int .i64 c, .int .i64 i]] w fun e w' => e = .returned v ∧ Below w.heap.size w w' := by
  have hF' := hF.alloc hl (.cells #[.int .i64 n, .int .i64 a, .int .i64 b, .int .i64 c, .int .i64 i] 57); obtain ⟨q0, q1, q2, q3, q4⟩ := hF'; clear hF; have b1 : decide ((n : Int) < 1) = false := by { rw [decide_eq_false_iff_not]; omega }; have b2 : decide ((13 : Int) < (n : Int)) = false := by { rw [decide_eq_false_iff_not]; omega }
  go_enter Tryd.func46, Tryd.ntmps46
  go_wp2_with (first | (go_at_call 66; (with_reducible refine (fits_any a fa false ha _).mono ?_); rintro e w1 ⟨rfl, rfl⟩))
  go_ret
  exact ⟨rfl, ((Below.refl _ _).alloc (Nat.le_refl _) _).alloc (by simp) _⟩
set_option maxRecDepth 100000 in
theorem cvalid_b1 (n : Nat) (hn1 : 1 ≤ n) (hn : n ≤ 13) (s : ByteArray) (fa fb fc fi : Int) (a b c i : Int) (w : World) (hl : 2 < w.heap.size) (hF : FormAt n s fa fb fc fi w) (v : Value) (hE : w.cell? ⟨3, 0, none⟩ = some v) (hEl : 3 < w.heap.size) (ha : Hid (fitB a fa = true)) (hb : Hid (fitB b fb = false)) : Calls Tryd.prog 46 #[.agg #[.int .i64 n, .int .i64 a, .int .i64 b, .int .i64 c, .int .i64 i]] w fun e w' => e = .returned v ∧ Below w.heap.size w w' := by
  have hF' := hF.alloc hl (.cells #[.int .i64 n, .int .i64 a, .int .i64 b, .int .i64 c, .int .i64 i] 57); obtain ⟨q0, q1, q2, q3, q4⟩ := hF'; clear hF; have b1 : decide ((n : Int) < 1) = false := by { rw [decide_eq_false_iff_not]; omega }; have b2 : decide ((13 : Int) < (n : Int)) = false := by { rw [decide_eq_false_iff_not]; omega }
  go_enter Tryd.func46, Tryd.ntmps46
  go_wp2_with (first | (go_at_call 66; (with_reducible refine (fits_any a fa true ha _).mono ?_); rintro e w1 ⟨rfl, rfl⟩) | (go_at_call 66; (with_reducible refine (fits_any b fb false hb _).mono ?_); rintro e w1 ⟨rfl, rfl⟩))
  go_ret
  exact ⟨rfl, ((Below.refl _ _).alloc (Nat.le_refl _) _).alloc (by simp) _⟩
set_option maxRecDepth 100000 in
theorem cvalid_b2 (n : Nat) (hn1 : 1 ≤ n) (hn : n ≤ 13) (s : ByteArray) (fa fb fc fi : Int) (a b c i : Int) (w : World) (hl : 2 < w.heap.size) (hF : FormAt n s fa fb fc fi w) (v : Value) (hE : w.cell? ⟨3, 0, none⟩ = some v) (hEl : 3 < w.heap.size) (ha : Hid (fitB a fa = true)) (hb : Hid (fitB b fb = true)) (hc : Hid (fitB c fc = false)) : Calls Tryd.prog 46 #[.agg #[.int .i64 n, .int .i64 a, .int .i64 b, .int .i64 c, .int .i64 i]] w fun e w' => e = .returned v ∧ Below w.heap.size w w' := by
  have hF' := hF.alloc hl (.cells #[.int .i64 n, .int .i64 a, .int .i64 b, .int .i64 c, .int .i64 i] 57); obtain ⟨q0, q1, q2, q3, q4⟩ := hF'; clear hF; have b1 : decide ((n : Int) < 1) = false := by { rw [decide_eq_false_iff_not]; omega }; have b2 : decide ((13 : Int) < (n : Int)) = false := by { rw [decide_eq_false_iff_not]; omega }
  go_enter Tryd.func46, Tryd.ntmps46
  go_wp2_with (first | (go_at_call 66; (with_reducible refine (fits_any a fa true ha _).mono ?_); rintro e w1 ⟨rfl, rfl⟩) | (go_at_call 66; (with_reducible refine (fits_any b fb true hb _).mono ?_); rintro e w1 ⟨rfl, rfl⟩) | (go_at_call 66; (with_reducible refine (fits_any c fc false hc _).mono ?_); rintro e w1 ⟨rfl, rfl⟩))
  go_ret
  exact ⟨rfl, ((Below.refl _ _).alloc (Nat.le_refl _) _).alloc (by simp) _⟩
set_option maxRecDepth 100000 in
theorem cvalid_b3 (n : Nat) (hn1 : 1 ≤ n) (hn : n ≤ 13) (s : ByteArray) (fa fb fc fi : Int) (a b c i : Int) (w : World) (hl : 2 < w.heap.size) (hF : FormAt n s fa fb fc fi w) (v : Value) (hE : w.cell? ⟨3, 0, none⟩ = some v) (hEl : 3 < w.heap.size) (ha : Hid (fitB a fa = true)) (hb : Hid (fitB b fb = true)) (hc : Hid (fitB c fc = true)) (hi : Hid (fitB i fi = false)) : Calls Tryd.prog 46 #[.agg #[.int .i64 n, .int .i64 a, .int .i64 b, .int .i64 c, .int .i64 i]] w fun e w' => e = .returned v ∧ Below w.heap.size w w' := by
  have hF' := hF.alloc hl (.cells #[.int .i64 n, .int .i64 a, .int .i64 b, .int .i64 c, .int .i64 i] 57); obtain ⟨q0, q1, q2, q3, q4⟩ := hF'; clear hF; have b1 : decide ((n : Int) < 1) = false := by { rw [decide_eq_false_iff_not]; omega }; have b2 : decide ((13 : Int) < (n : Int)) = false := by { rw [decide_eq_false_iff_not]; omega }
  go_enter Tryd.func46, Tryd.ntmps46
  go_wp2_with (first | (go_at_call 66; (with_reducible refine (fits_any a fa true ha _).mono ?_); rintro e w1 ⟨rfl, rfl⟩) | (go_at_call 66; (with_reducible refine (fits_any b fb true hb _).mono ?_); rintro e w1 ⟨rfl, rfl⟩) | (go_at_call 66; (with_reducible refine (fits_any c fc true hc _).mono ?_); rintro e w1 ⟨rfl, rfl⟩) | (go_at_call 66; (with_reducible refine (fits_any i fi false hi _).mono ?_); rintro e w1 ⟨rfl, rfl⟩))
  go_ret
  exact ⟨rfl, ((Below.refl _ _).alloc (Nat.le_refl _) _).alloc (by simp) _⟩
theorem cvalid_word (op a b c i : Int) (w : World) (v : Value) (hE : w.cell? ⟨1, 0, none⟩ = some v) (hEl : 1 < w.heap.size) (ho : op < 1 ∨ 13 < op) :
    Calls Tryd.prog 46 #[.agg #[.int .i64 op, .int .i64 a, .int .i64 b, .int .i64 c, .int .i64 i]] w fun e w' => e = .returned v ∧ Below w.heap.size w w' := by
  by_cases h1 : op < 1
  · have b1 : decide (op < 1) = true := by rw [decide_eq_true_iff]; exact h1
    clear ho
    go_enter Tryd.func46, Tryd.ntmps46
    go_wp2
    go_ret
    exact ⟨rfl, (Below.refl _ _).alloc (Nat.le_refl _) _⟩
  · have h2 : 13 < op := by omega
    have b1 : decide (op < 1) = false := by rw [decide_eq_false_iff_not]; exact h1
    have b2 : decide (13 < op) = true := by rw [decide_eq_true_iff]; exact h2
    clear ho
    go_enter Tryd.func46, Tryd.ntmps46
    go_wp2
    go_ret
    exact ⟨rfl, (Below.refl _ _).alloc (Nat.le_refl _) _⟩
/-- May this be an instruction? -/
def okB (op a b c i : Int) : Bool := decide (1 ≤ op ∧ op ≤ 13) && (fitB a (fA.getD op.toNat 0) && (fitB b (fB.getD op.toNat 0) && (fitB c (fC.getD op.toNat 0) && fitB i (fI.getD op.toNat 0))))
/-- What the program says of an instruction: nothing, or which error. -/
def cErr (vw vr : Value) (op a b c i : Int) : Value := if okB op a b c i = true then .nilIface else if decide (1 ≤ op ∧ op ≤ 13) = true then vr else vw
structure CodeAt (vw vr : Value) (w : World) : Prop where
  forms : Forms w
  word : w.cell? ⟨1, 0, none⟩ = some vw
  wordLt : 1 < w.heap.size
  range : w.cell? ⟨3, 0, none⟩ = some vr
  rangeLt : 3 < w.heap.size
theorem CodeAt.below {vw vr : Value} {w w' : World} (h : CodeAt vw vr w) (hb : Below w.heap.size w w') : CodeAt vw vr w' :=
  ⟨h.forms.below hb, (hb.cell (p := ⟨1, 0, none⟩) h.wordLt).trans h.word, Nat.lt_of_lt_of_le h.wordLt hb.size, (hb.cell (p := ⟨3, 0, none⟩) h.rangeLt).trans h.range, Nat.lt_of_lt_of_le h.rangeLt hb.size⟩
theorem cvalid_any (op a b c i : Int) (vw vr : Value) (w : World) (hC : CodeAt vw vr w) :
    Calls Tryd.prog 46 #[.agg #[.int .i64 op, .int .i64 a, .int .i64 b, .int .i64 c, .int .i64 i]] w fun e w' => e = .returned (cErr vw vr op a b c i) ∧ Below w.heap.size w w' := by
  by_cases h0 : 1 ≤ op ∧ op ≤ 13
  rotate_left
  · have e : cErr vw vr op a b c i = vw := by
      have : okB op a b c i = false := by simp only [okB, decide_eq_false h0]; rfl
      simp only [cErr, this, decide_eq_false h0]; rfl
    rw [e]
    exact cvalid_word op a b c i w vw hC.word hC.wordLt (by omega)
  obtain ⟨n, rfl⟩ : ∃ n : Nat, op = n := ⟨op.toNat, by omega⟩
  have hF := hC.forms.one n (by omega)
  have d0 := decide_eq_true h0
  have hok : okB n a b c i = (fitB a (fA.getD n 0) && (fitB b (fB.getD n 0) && (fitB c (fC.getD n 0) && fitB i (fI.getD n 0)))) := by
    simp only [okB, d0, Int.toNat_natCast, Bool.true_and]
  have hE : ∀ t, okB n a b c i = t → cErr vw vr n a b c i = if t = true then .nilIface else vr := by
    intro t ht
    simp only [cErr, ht, d0]
    simp
  cases h1 : fitB a (fA.getD n 0)
  · rw [hE false (by rw [hok, h1]; rfl)]
    exact cvalid_b0 n (by omega) (by omega) _ _ _ _ _ a b c i w hC.forms.lt hF vr hC.range hC.rangeLt (Lib.hid h1)
  cases h2 : fitB b (fB.getD n 0)
  · rw [hE false (by rw [hok, h1, h2]; rfl)]
    exact cvalid_b1 n (by omega) (by omega) _ _ _ _ _ a b c i w hC.forms.lt hF vr hC.range hC.rangeLt (Lib.hid h1) (Lib.hid h2)
  cases h3 : fitB c (fC.getD n 0)
  · rw [hE false (by rw [hok, h1, h2, h3]; rfl)]
    exact cvalid_b2 n (by omega) (by omega) _ _ _ _ _ a b c i w hC.forms.lt hF vr hC.range hC.rangeLt (Lib.hid h1) (Lib.hid h2) (Lib.hid h3)
  cases h4 : fitB i (fI.getD n 0)
  · rw [hE false (by rw [hok, h1, h2, h3, h4]; rfl)]
    exact cvalid_b3 n (by omega) (by omega) _ _ _ _ _ a b c i w hC.forms.lt hF vr hC.range hC.rangeLt (Lib.hid h1) (Lib.hid h2) (Lib.hid h3) (Lib.hid h4)
  · rw [hE true (by rw [hok, h1, h2, h3, h4]; rfl)]
    exact cvalid_ok n (by omega) (by omega) _ _ _ _ _ a b c i w hC.forms.lt hF (Lib.hid h1) (Lib.hid h2) (Lib.hid h3) (Lib.hid h4)
abbrev errC (a : Addr) : Value := .iface 211 (.pointer (some a))
/-- A right instruction: nothing. -/
theorem cvalid_yes (op a b c i : Int) (vw vr : Value) (h : Hid (okB op a b c i = true)) (w : World) (hC : CodeAt vw vr w) :
    Calls Tryd.prog 46 #[.agg #[.int .i64 op, .int .i64 a, .int .i64 b, .int .i64 c, .int .i64 i]] w fun e w' => e = .returned .nilIface ∧ Below w.heap.size w w' := by
  have := cvalid_any op a b c i vw vr w hC
  have e : cErr vw vr op a b c i = .nilIface := by simp [cErr, h.out]
  rwa [e] at this
/-- One that is none: which error. -/
theorem cvalid_no (op a b c i : Int) (x y z : Addr) (hz : Hid ((if decide (1 ≤ op ∧ op ≤ 13) = true then y else x) = z)) (h : Hid (okB op a b c i = false)) (w : World) (hC : CodeAt (errC x) (errC y) w) :
    Calls Tryd.prog 46 #[.agg #[.int .i64 op, .int .i64 a, .int .i64 b, .int .i64 c, .int .i64 i]] w fun e w' => e = .returned (errC z) ∧ Below w.heap.size w w' := by
  refine (cvalid_any op a b c i _ _ w hC).mono fun e w' ⟨he, hb⟩ => ⟨?_, hb⟩
  rw [he, ← hz.out]
  unfold cErr
  rw [h.out, if_neg (by decide)]
  split <;> rfl
end Go.Proofs.YtjkbfhojjjkgnaaDoor
namespace Go.Proofs.YtjkbfhojjjkgnaaDoor
open Go.ChangeShapes Go.WideShapes Go.ChangeAt Go.RowKit
set_option linter.unusedVariables false
theorem or_sum (i : Nat) (x y : Int) (hx : 0 ≤ x) (hx' : x < 4294967296) (hy : 0 ≤ y) (hm : x % ((2 ^ i : Nat) : Int) = 0) (hlt : y < ((2 ^ i : Nat) : Int)) (hy' : y < 4294967296) : bits BinOp.or IntKind.u32 x y = x + y := by
  rw [u32_or x y hx hx' hy hy', nat_join i x.toNat y.toNat ?_ ?_]
  · omega
  · have h1 : x = (x.toNat : Int) := by omega
    rw [h1] at hm
    have : ((x.toNat % 2 ^ i : Nat) : Int) = 0 := by rw [Int.natCast_emod]; exact hm
    omega
  · omega
/-- Five cells stored one by one: what they hold. -/
theorem five_cells {w1 : World} {b : Nat} {u0 u1 u2 u3 u4 : Value} (v0 v1 v2 v3 v4 : Value) (h0 : w1.cell? ⟨b, 0, none⟩ = some u0) (h1 : w1.cell? ⟨b, 1, none⟩ = some u1) (h2 : w1.cell? ⟨b, 2, none⟩ = some u2) (h3 : w1.cell? ⟨b, 3, none⟩ = some u3) (h4 : w1.cell? ⟨b, 4, none⟩ = some u4) (W : World)
    (hW : W = ((((w1.setCell ⟨b, 0, none⟩ v0).setCell ⟨b, 1, none⟩ v1).setCell ⟨b, 2, none⟩ v2).setCell ⟨b, 3, none⟩ v3).setCell ⟨b, 4, none⟩ v4) :
    W.cell? ⟨b, 0, none⟩ = some v0 ∧ W.cell? ⟨b, 1, none⟩ = some v1 ∧ W.cell? ⟨b, 2, none⟩ = some v2 ∧ W.cell? ⟨b, 3, none⟩ = some v3 ∧ W.cell? ⟨b, 4, none⟩ = some v4 := by
  have o : ∀ (w : World) (i j : Nat) (v : Value), i ≠ j → (w.setCell ⟨b, i, none⟩ v).cell? ⟨b, j, none⟩ = w.cell? ⟨b, j, none⟩ := fun w i j v h => World.cell?_setCell_other w _ _ v (by intro e; exact h (congrArg Addr.off e))
  have c : ∀ (w : World) (i : Nat) (v u : Value), w.cell? ⟨b, i, none⟩ = some u → (w.setCell ⟨b, i, none⟩ v).cell? ⟨b, i, none⟩ = some v := fun w i v u h => World.cell?_setCell_same w _ v h
  subst hW
  refine ⟨?_, ?_, ?_, ?_, ?_⟩
  · rw [o _ 4 0 _ (by decide), o _ 3 0 _ (by decide), o _ 2 0 _ (by decide), o _ 1 0 _ (by decide)]
    exact c _ _ _ _ h0
  · rw [o _ 4 1 _ (by decide), o _ 3 1 _ (by decide), o _ 2 1 _ (by decide)]
    exact c _ _ _ u1 (by rw [o _ 0 1 _ (by decide)]; exact h1)
  · rw [o _ 4 2 _ (by decide), o _ 3 2 _ (by decide)]
    exact c _ _ _ u2 (by rw [o _ 1 2 _ (by decide), o _ 0 2 _ (by decide)]; exact h2)
  · rw [o _ 4 3 _ (by decide)]
    exact c _ _ _ u3 (by rw [o _ 2 3 _ (by decide), o _ 1 3 _ (by decide), o _ 0 3 _ (by decide)]; exact h3)
  · exact c _ _ _ u4 (by rw [o _ 3 4 _ (by decide), o _ 2 4 _ (by decide), o _ 1 4 _ (by decide), o _ 0 4 _ (by decide)]; exact h4)
theorem and_mod (i : Nat) (x : Int) (m : Int) (hx : 0 ≤ x) (hx' : x < 4294967296) (hm : m = ((2 ^ i - 1 : Nat) : Int)) (hi : i < 32) : bits BinOp.and IntKind.u32 x m = x % ((2 ^ i : Nat) : Int) := by
  have h2 : 2 ^ i - 1 < 4294967296 := Nat.lt_of_lt_of_le (Nat.sub_lt (Nat.two_pow_pos i) (by decide)) (Nat.pow_le_pow_right (by decide) (by omega : i ≤ 32))
  rw [u32_and x m hx hx' (by omega) (by omega), hm, Int.toNat_natCast, Nat.and_two_pow_sub_one_eq_mod]
  have h1 : x = (x.toNat : Int) := by omega
  rw [Int.natCast_emod, ← h1]
def wordC (op a b c i : Int) : Int := op * 16777216 + a * 1048576 + b * 65536 + c * 4096 + i
theorem word_sum (op a b c i : Int) (g0 : 0 ≤ op) (g1 : op ≤ 13) (g2 : 0 ≤ a) (g3 : a ≤ 15) (g4 : 0 ≤ b) (g5 : b ≤ 15) (g6 : 0 ≤ c) (g7 : c ≤ 15) (g8 : 0 ≤ i) (g9 : i ≤ 4095) :
    bits BinOp.or IntKind.u32 (op * 16777216) (bits BinOp.or IntKind.u32 (bits BinOp.or IntKind.u32 (bits BinOp.or IntKind.u32 (a * 1048576) (b * 65536)) (c * 4096)) i) = wordC op a b c i := by
  rw [or_sum 20 (a * 1048576) (b * 65536) (by omega) (by omega) (by omega) (by simp) (by simp; omega) (by omega)]
  rw [or_sum 16 _ (c * 4096) (by omega) (by omega) (by omega) (by simp; omega) (by simp; omega) (by omega)]
  rw [or_sum 12 _ i (by omega) (by omega) (by omega) (by simp; omega) (by simp; omega) (by omega)]
  rw [or_sum 24 (op * 16777216) _ (by omega) (by omega) (by omega) (by simp) (by simp; omega) (by omega)]
  unfold wordC
  omega
theorem hi_le (f : Int) : hiOf f ≤ 4095 := by unfold hiOf; repeat' split
                                              all_goals omega
theorem fA_le : ∀ n : Fin 14, hiOf (fA.getD n.val 0) ≤ 15 := by decide
theorem fB_le : ∀ n : Fin 14, hiOf (fB.getD n.val 0) ≤ 15 := by decide
theorem fC_le : ∀ n : Fin 14, hiOf (fC.getD n.val 0) ≤ 15 := by decide
/-- What bounds a right instruction has. -/
theorem ok_bounds {op a b c i : Int} (h : okB op a b c i = true) : 1 ≤ op ∧ op ≤ 13 ∧ 0 ≤ a ∧ a ≤ 15 ∧ 0 ≤ b ∧ b ≤ 15 ∧ 0 ≤ c ∧ c ≤ 15 ∧ 0 ≤ i ∧ i ≤ 4095 := by
  simp only [okB, fitB, Bool.and_eq_true, decide_eq_true_eq] at h
  obtain ⟨h0, h1, h2, h3, h4⟩ := h
  have e1 := fA_le ⟨op.toNat, by omega⟩
  have e2 := fB_le ⟨op.toNat, by omega⟩
  have e3 := fC_le ⟨op.toNat, by omega⟩
  have e4 := hi_le (fI.getD op.toNat 0)
  simp only at e1 e2 e3
  omega
theorem ret_word {a b : Int} {v : Value} (h : a = b) : Ending.returned (.tuple #[.int .u32 a, v]) = .returned (.tuple #[.int .u32 b, v]) := by rw [h]
set_option maxRecDepth 100000 in
set_option maxHeartbeats 1000000 in
theorem cword_ok (op a b c i : Int) (x y : Addr) (w : World) (hC : CodeAt (errC x) (errC y) w) (h : Hid (okB op a b c i = true)) (l : Int) (hl : Hid (wordC op a b c i = l)) :
    Calls Tryd.prog 25 #[.agg #[.int .i64 op, .int .i64 a, .int .i64 b, .int .i64 c, .int .i64 i]] w fun e w' => e = .returned (.tuple #[.int .u32 l, .nilIface]) ∧ Below w.heap.size w w' := by
  have HC := hC.below ((Below.refl _ _).alloc (Nat.le_refl _) _ : Below w.heap.size w (w.alloc (.cells #[.int .i64 op, .int .i64 a, .int .i64 b, .int .i64 c, .int .i64 i] 57)))
  obtain ⟨g0, g1, g2, g3, g4, g5, g6, g7, g8, g9⟩ := ok_bounds h.out
  have E := Lib.hid (word_sum op a b c i (by omega) g1 g2 g3 g4 g5 g6 g7 g8 g9)
  clear hC
  go_enter Tryd.func25, Tryd.ntmps25
  go_wp2_with (first | (go_at_call 46; (with_reducible refine (cvalid_yes _ _ _ _ _ _ _ h _ HC).mono ?_); rintro e w1 ⟨rfl, hb⟩; have hk := keep5C (k0 := op) (k1 := a) (k2 := b) (k3 := c) (k4 := i) (b := w.heap.size) ⟨by simp, by simp, by simp, by simp, by simp, by simp⟩ hb))
  go_ret2
  exact ⟨ret_word (E.out.trans hl.out), ((Below.refl _ _).alloc (Nat.le_refl _) _).trans (hb.mono (by simp))⟩
set_option maxRecDepth 100000 in
theorem cword_no (op a b c i : Int) (x y : Addr) (w : World) (hC : CodeAt (errC x) (errC y) w) (z : Addr) (hz : Hid ((if decide (1 ≤ op ∧ op ≤ 13) = true then y else x) = z)) (h : Hid (okB op a b c i = false)) :
    Calls Tryd.prog 25 #[.agg #[.int .i64 op, .int .i64 a, .int .i64 b, .int .i64 c, .int .i64 i]] w fun e w' => e = .returned (.tuple #[.int .u32 0, errC z]) ∧ Below w.heap.size w w' := by
  have HC := hC.below ((Below.refl _ _).alloc (Nat.le_refl _) _ : Below w.heap.size w (w.alloc (.cells #[.int .i64 op, .int .i64 a, .int .i64 b, .int .i64 c, .int .i64 i] 57)))
  clear hC
  go_enter Tryd.func25, Tryd.ntmps25
  go_wp2_with (first | (go_at_call 46; (with_reducible refine (cvalid_no _ _ _ _ _ x y z hz h _ HC).mono ?_); rintro e w1 ⟨rfl, hb⟩))
  go_ret2
  exact ⟨rfl, ((Below.refl _ _).alloc (Nat.le_refl _) _).trans (hb.mono (by simp))⟩
/-- The parts of a word. -/
def PartsC (w p0 p1 p2 p3 p4 : Int) : Prop := w / 16777216 = p0 ∧ w / 1048576 % 16 = p1 ∧ w / 65536 % 16 = p2 ∧ w / 4096 % 16 = p3 ∧ w % 4096 = p4
set_option maxRecDepth 100000 in
set_option maxHeartbeats 1000000 in
theorem cread_ok' (v p0 p1 p2 p3 p4 : Int) (x y : Addr) (w : World) (hC : CodeAt (errC x) (errC y) w) (g0 : 0 ≤ v) (g1 : v ≤ 4294967295) (e0 : v / 16777216 = p0) (e1 : bits BinOp.and IntKind.u32 (v / 1048576) 15 = p1) (e2 : bits BinOp.and IntKind.u32 (v / 65536) 15 = p2) (e3 : bits BinOp.and IntKind.u32 (v / 4096) 15 = p3) (e4 : bits BinOp.and IntKind.u32 v 4095 = p4) (f0 : 0 ≤ p0) (f1 : p0 ≤ 255) (f2 : 0 ≤ p1) (f3 : p1 ≤ 15) (f4 : 0 ≤ p2) (f5 : p2 ≤ 15) (f6 : 0 ≤ p3) (f7 : p3 ≤ 15) (f8 : 0 ≤ p4) (f9 : p4 ≤ 4095) (h : Hid (okB p0 p1 p2 p3 p4 = true)) :
    Calls Tryd.prog 41 #[.int .u32 v] w fun e w' => e = .returned (.tuple #[(Value.agg #[.int .i64 p0, .int .i64 p1, .int .i64 p2, .int .i64 p3, .int .i64 p4]), .bool true]) ∧ Below w.heap.size w w' := by
  have HC := hC.below (((Below.refl _ _).alloc (Nat.le_refl _) _).alloc (by simp) _ : Below w.heap.size w ((w.alloc (.cells #[.int .i64 0, .int .i64 0, .int .i64 0, .int .i64 0, .int .i64 0] 57)).alloc (.cells #[.int .i64 p0, .int .i64 p1, .int .i64 p2, .int .i64 p3, .int .i64 p4] 57)))
  clear hC
  go_enter Tryd.func41, Tryd.ntmps41
  go_wp2_with (first | (go_at_call 46; (with_reducible refine (cvalid_yes _ _ _ _ _ _ _ h _ HC).mono ?_); rintro e w1 ⟨rfl, hb⟩; obtain ⟨hc, hf⟩ := bcellC hb; have hz : w.heap.size + 1 < w1.heap.size := by { have := hb.size; simp at this; omega }))
  obtain ⟨q0, q1, q2, q3, q4⟩ := five_cells (b := w.heap.size) (u0 := .int .i64 0) (u1 := .int .i64 0) (u2 := .int .i64 0) (u3 := .int .i64 0) (u4 := .int .i64 0) (.int .i64 p0) (.int .i64 p1) (.int .i64 p2) (.int .i64 p3) (.int .i64 p4) ((hc w.heap.size 0 (by simp; omega)).trans (by simp)) ((hc w.heap.size 1 (by simp; omega)).trans (by simp)) ((hc w.heap.size 2 (by simp; omega)).trans (by simp)) ((hc w.heap.size 3 (by simp; omega)).trans (by simp)) ((hc w.heap.size 4 (by simp; omega)).trans (by simp)) _ rfl
  refine bodyPost_ret (v := .tuple #[(Value.agg #[.int .i64 p0, .int .i64 p1, .int .i64 p2, .int .i64 p3, .int .i64 p4]), .bool true]) (by simp [results, Tryd.results41, go_sem, q0, q1, q2, q3, q4]) rfl ⟨rfl, ?_⟩
  exact (((((((((Below.refl _ _).alloc (Nat.le_refl _) _).alloc (by simp) _).trans (hb.mono (by simp; omega))).setCell (by simp) _).setCell (by simp) _).setCell (by simp) _).setCell (by simp) _).setCell (by simp) _)
set_option maxRecDepth 100000 in
set_option maxHeartbeats 1000000 in
theorem cread_no' (v p0 p1 p2 p3 p4 : Int) (x y : Addr) (w : World) (hC : CodeAt (errC x) (errC y) w) (g0 : 0 ≤ v) (g1 : v ≤ 4294967295) (e0 : v / 16777216 = p0) (e1 : bits BinOp.and IntKind.u32 (v / 1048576) 15 = p1) (e2 : bits BinOp.and IntKind.u32 (v / 65536) 15 = p2) (e3 : bits BinOp.and IntKind.u32 (v / 4096) 15 = p3) (e4 : bits BinOp.and IntKind.u32 v 4095 = p4) (f0 : 0 ≤ p0) (f1 : p0 ≤ 255) (f2 : 0 ≤ p1) (f3 : p1 ≤ 15) (f4 : 0 ≤ p2) (f5 : p2 ≤ 15) (f6 : 0 ≤ p3) (f7 : p3 ≤ 15) (f8 : 0 ≤ p4) (f9 : p4 ≤ 4095) (h : Hid (okB p0 p1 p2 p3 p4 = false)) :
    Calls Tryd.prog 41 #[.int .u32 v] w fun e w' => e = .returned (.tuple #[Value.agg #[.int .i64 0, .int .i64 0, .int .i64 0, .int .i64 0, .int .i64 0], .bool false]) ∧ Below w.heap.size w w' := by
  have HC := hC.below (((Below.refl _ _).alloc (Nat.le_refl _) _).alloc (by simp) _ : Below w.heap.size w ((w.alloc (.cells #[.int .i64 0, .int .i64 0, .int .i64 0, .int .i64 0, .int .i64 0] 57)).alloc (.cells #[.int .i64 p0, .int .i64 p1, .int .i64 p2, .int .i64 p3, .int .i64 p4] 57)))
  obtain ⟨z, hz⟩ : ∃ z, Hid ((if decide (1 ≤ p0 ∧ p0 ≤ 13) = true then y else x) = z) := ⟨_, Lib.hid rfl⟩
  clear hC
  go_enter Tryd.func41, Tryd.ntmps41
  go_wp2_with (first | (go_at_call 46; (with_reducible refine (cvalid_no _ _ _ _ _ x y z hz h _ HC).mono ?_); rintro e w1 ⟨rfl, hb⟩; obtain ⟨hc, hf⟩ := bcellC hb; have hz : w.heap.size + 1 < w1.heap.size := by { have := hb.size; simp at this; omega }))
  obtain ⟨q0, q1, q2, q3, q4⟩ := five_cells (b := w.heap.size) (u0 := .int .i64 0) (u1 := .int .i64 0) (u2 := .int .i64 0) (u3 := .int .i64 0) (u4 := .int .i64 0) (.int .i64 0) (.int .i64 0) (.int .i64 0) (.int .i64 0) (.int .i64 0) ((hc w.heap.size 0 (by simp; omega)).trans (by simp)) ((hc w.heap.size 1 (by simp; omega)).trans (by simp)) ((hc w.heap.size 2 (by simp; omega)).trans (by simp)) ((hc w.heap.size 3 (by simp; omega)).trans (by simp)) ((hc w.heap.size 4 (by simp; omega)).trans (by simp)) _ rfl
  refine bodyPost_ret (v := .tuple #[Value.agg #[.int .i64 0, .int .i64 0, .int .i64 0, .int .i64 0, .int .i64 0], .bool false]) (by simp [results, Tryd.results41, go_sem, q0, q1, q2, q3, q4]) rfl ⟨rfl, ?_⟩
  exact (((((((((Below.refl _ _).alloc (Nat.le_refl _) _).alloc (by simp) _).trans (hb.mono (by simp; omega))).setCell (by simp) _).setCell (by simp) _).setCell (by simp) _).setCell (by simp) _).setCell (by simp) _)
theorem cread_ok (v p0 p1 p2 p3 p4 : Int) (x y : Addr) (w : World) (hC : CodeAt (errC x) (errC y) w) (g0 : 0 ≤ v) (g1 : v ≤ 4294967295) (hp : Hid (PartsC v p0 p1 p2 p3 p4)) (h : Hid (okB p0 p1 p2 p3 p4 = true)) :
    Calls Tryd.prog 41 #[.int .u32 v] w fun e w' => e = .returned (.tuple #[(Value.agg #[.int .i64 p0, .int .i64 p1, .int .i64 p2, .int .i64 p3, .int .i64 p4]), .bool true]) ∧ Below w.heap.size w w' := by
  obtain ⟨e0, e1, e2, e3, e4⟩ := hp.out; have m1 : bits BinOp.and IntKind.u32 (v / 1048576) 15 = p1 := by { rw [and_mod 4 _ 15 (by omega) (by omega) (by decide) (by decide)]; exact e1 }; have m2 : bits BinOp.and IntKind.u32 (v / 65536) 15 = p2 := by { rw [and_mod 4 _ 15 (by omega) (by omega) (by decide) (by decide)]; exact e2 }; have m3 : bits BinOp.and IntKind.u32 (v / 4096) 15 = p3 := by { rw [and_mod 4 _ 15 (by omega) (by omega) (by decide) (by decide)]; exact e3 }; have m4 : bits BinOp.and IntKind.u32 v 4095 = p4 := by { rw [and_mod 12 _ 4095 (by omega) (by omega) (by decide) (by decide)]; exact e4 }
  exact cread_ok' v p0 p1 p2 p3 p4 x y w hC g0 g1 e0 m1 m2 m3 m4 (by omega) (by omega) (by omega) (by omega) (by omega) (by omega) (by omega) (by omega) (by omega) (by omega) h
theorem cread_no (v p0 p1 p2 p3 p4 : Int) (x y : Addr) (w : World) (hC : CodeAt (errC x) (errC y) w) (g0 : 0 ≤ v) (g1 : v ≤ 4294967295) (hp : Hid (PartsC v p0 p1 p2 p3 p4)) (h : Hid (okB p0 p1 p2 p3 p4 = false)) :
    Calls Tryd.prog 41 #[.int .u32 v] w fun e w' => e = .returned (.tuple #[Value.agg #[.int .i64 0, .int .i64 0, .int .i64 0, .int .i64 0, .int .i64 0], .bool false]) ∧ Below w.heap.size w w' := by
  obtain ⟨e0, e1, e2, e3, e4⟩ := hp.out; have m1 : bits BinOp.and IntKind.u32 (v / 1048576) 15 = p1 := by { rw [and_mod 4 _ 15 (by omega) (by omega) (by decide) (by decide)]; exact e1 }; have m2 : bits BinOp.and IntKind.u32 (v / 65536) 15 = p2 := by { rw [and_mod 4 _ 15 (by omega) (by omega) (by decide) (by decide)]; exact e2 }; have m3 : bits BinOp.and IntKind.u32 (v / 4096) 15 = p3 := by { rw [and_mod 4 _ 15 (by omega) (by omega) (by decide) (by decide)]; exact e3 }; have m4 : bits BinOp.and IntKind.u32 v 4095 = p4 := by { rw [and_mod 12 _ 4095 (by omega) (by omega) (by decide) (by decide)]; exact e4 }
  exact cread_no' v p0 p1 p2 p3 p4 x y w hC g0 g1 e0 m1 m2 m3 m4 (by omega) (by omega) (by omega) (by omega) (by omega) (by omega) (by omega) (by omega) (by omega) (by omega) h
theorem partsC_of {op a b c i : Int} (h : okB op a b c i = true) : PartsC (wordC op a b c i) op a b c i ∧ 0 ≤ wordC op a b c i ∧ wordC op a b c i ≤ 4294967295 := by
  have := ok_bounds h
  unfold PartsC wordC
  omega
theorem wordC_of {v p0 p1 p2 p3 p4 : Int} (h : PartsC v p0 p1 p2 p3 p4) : wordC p0 p1 p2 p3 p4 = v := by
  unfold PartsC at h
  unfold wordC
  omega
end Go.Proofs.YtjkbfhojjjkgnaaDoor
namespace Go.Proofs.YtjkbfhojjjkgnaaDoor
open Go.ChangeShapes Go.WideShapes Go.ChangeAt Go.RowKit
set_option linter.unusedVariables false
theorem piece_at {cs : List Value} {a k j : Nat} {v : Value} (hj : j < k) (h : (((cs.drop a).take k).drop j).take 1 = [v]) : cs[a + j]? = some v := by
  have := congrArg (fun l => l[0]?) h
  simpa [List.getElem?_take, List.getElem?_drop, hj] using this
/-- A listed array of structs of a text and four numbers: what its cells hold. -/
theorem rows5_of_head {P : Program} {W : World} {name : String} {l : List (List UInt8 × Int × Int × Int × Int)} {rest : List (String × DataW Unit)} {g : Nat} {t e ts ti : TypeId} {n : Nat} {f0 f1 f2 f3 f4 : Field}
    (hg : P.globalNamed name = some g) (hty : (P.globals[g]?).map (·.type) = some t) (ht : P.underlying t = some (.array n e)) (he : P.underlying e = some (.struct #[f0, f1, f2, f3, f4])) (hce : P.cellsOf e = 5)
    (hs : P.underlying ts = some .string) (hi : P.underlying ti = some (.int .i64)) (cs1 : P.cellsOf ts = 1) (ci1 : P.cellsOf ti = 1)
    (o0 : f0.type = ts ∧ f0.offset = 0) (o1 : f1.type = ti ∧ f1.offset = 1) (o2 : f2.type = ti ∧ f2.offset = 2) (o3 : f3.type = ti ∧ f3.offset = 3) (o4 : f4.type = ti ∧ f4.offset = 4)
    (h : laidMet P ((name, .agg (l.map fun r => .agg [.lit (.string r.1), .lit (.int .i64 r.2.1), .lit (.int .i64 r.2.2.1), .lit (.int .i64 r.2.2.2.1), .lit (.int .i64 r.2.2.2.2)])) :: rest) W) :
    ∀ i r, l[i]? = some r → W.cell? ⟨g, i * 5, none⟩ = some (.string ⟨r.1.toArray⟩) ∧ W.cell? ⟨g, i * 5 + 1, none⟩ = some (.int .i64 r.2.1) ∧ W.cell? ⟨g, i * 5 + 2, none⟩ = some (.int .i64 r.2.2.1) ∧ W.cell? ⟨g, i * 5 + 3, none⟩ = some (.int .i64 r.2.2.2.1) ∧ W.cell? ⟨g, i * 5 + 4, none⟩ = some (.int .i64 r.2.2.2.2) := by
  obtain ⟨ps, ⟨g', t', cs, fuel, p, q, hg', ht', hvar, hd, _, _⟩, _⟩ := h
  obtain rfl := Option.some.inj (hg.symm.trans hg')
  obtain rfl := Option.some.inj (hty.symm.trans ht')
  obtain ⟨xs, m, _, hx, hlen, hxl, hat⟩ := DataW.trod_array ht hd
  simp only [Prod.mk.injEq, DataW.agg.injEq] at hx
  intro i r hr
  have hln : l.length = n := by
    have := congrArg List.length hx.1
    simp at this; omega
  have hil : i < l.length := by
    rcases Nat.lt_or_ge i l.length with h' | h'
    · exact h'
    · rw [List.getElem?_eq_none h'] at hr; exact absurd hr (by simp)
  have h1 := hat i (by omega)
  rw [hce] at h1
  have hxi : xs[i]? = some (xs[i]'(by omega)) := List.getElem?_eq_getElem (by omega)
  rw [hxi] at h1
  have h2 : (xs.map (·.1))[i]? = some (xs[i]'(by omega)).1 := by rw [List.getElem?_map, hxi]; rfl
  rw [← hx.1, List.getElem?_map, hr] at h2
  have h3 := Option.some.inj h2
  obtain ⟨ys, k, _, hy, _, hyl, hf⟩ := DataW.trod_struct he h1
  rw [hy] at h3
  simp only [DataW.agg.injEq] at h3
  have q0 := hf 0 f0 rfl
  have q1 := hf 1 f1 rfl
  have q2 := hf 2 f2 rfl
  have q3 := hf 3 f3 rfl
  have q4 := hf 4 f4 rfl
  match ys, hyl with
  | [y0, y1, y2, y3, y4], _ =>
    simp only [List.map_cons, List.map_nil, List.cons.injEq, and_true] at h3
    simp only [List.getElem?_cons_zero, List.getElem?_cons_succ] at q0 q1 q2 q3 q4
    rw [o0.1, o0.2, cs1] at q0
    rw [o1.1, o1.2, ci1] at q1
    rw [o2.1, o2.2, ci1] at q2
    rw [o3.1, o3.2, ci1] at q3
    rw [o4.1, o4.2, ci1] at q4
    obtain ⟨s, e1, e2, _⟩ := DataW.trod_string hs q0
    obtain ⟨n1, a1, b1, _⟩ := DataW.trod_int hi q1
    obtain ⟨n2, a2, b2, _⟩ := DataW.trod_int hi q2
    obtain ⟨n3, a3, b3, _⟩ := DataW.trod_int hi q3
    obtain ⟨n4, a4, b4, _⟩ := DataW.trod_int hi q4
    obtain ⟨z0, z1, z2, z3, z4⟩ := h3
    rw [e2] at z0
    rw [b1] at z1
    rw [b2] at z2
    rw [b3] at z3
    rw [b4] at z4
    simp at z0 z1 z2 z3 z4
    have w0 := World.var?_cell hg hvar
    have c0 := piece_at (by decide) e1
    have c1 := piece_at (by decide) a1
    have c2 := piece_at (by decide) a2
    have c3 := piece_at (by decide) a3
    have c4 := piece_at (by decide) a4
    rw [Array.getElem?_toList] at c0 c1 c2 c3 c4
    refine ⟨?_, ?_, ?_, ?_, ?_⟩
    · rw [w0, show i * 5 = i * 5 + 0 from rfl, c0, bytes_of (s := s) z0.symm]
    · rw [w0, c1, z1]
    · rw [w0, c2, z2]
    · rw [w0, c3, z3]
    · rw [w0, c4, z4]
def fL : List (List UInt8 × Int × Int × Int × Int) := fNm.zip (fA.zip (fB.zip (fC.zip fI)))
theorem fL_at : ∀ n : Fin 14, fL[n.val]? = some (fNm.getD n.val [], fA.getD n.val 0, fB.getD n.val 0, fC.getD n.val 0, fI.getD n.val 0) := by decide +kernel
theorem gForms : Tryd.prog.globalNamed "turnkey/code.forms" = some 2 := by kernel_rfl
theorem tForms : (Tryd.prog.globals[2]?).map (·.type) = some 156 := by kernel_rfl
theorem cForm : Tryd.prog.cellsOf 155 = 5 := by kernel_rfl
theorem cInt : Tryd.prog.cellsOf 3 = 1 := by kernel_rfl
theorem in_heap {w : World} {g i : Nat} {v : Value} (h : w.cell? ⟨g, i, none⟩ = some v) : g < w.heap.size := by
  rcases Nat.lt_or_ge g w.heap.size with h' | h'
  · exact h'
  · simp [World.cell?, Array.getElem?_eq_none h'] at h
theorem forms_of {l : List (String × DataW Unit)} {w : World} (h : laidMet Tryd.prog l w) (hm : ("turnkey/code.forms", DataW.agg (fL.map fun r => .agg [.lit (.string r.1), .lit (.int .i64 r.2.1), .lit (.int .i64 r.2.2.1), .lit (.int .i64 r.2.2.2.1), .lit (.int .i64 r.2.2.2.2)])) ∈ l) : Forms w := by
  have hr := rows5_of_head (l := fL) (rest := []) gForms tForms Tryd.underlying156 Tryd.underlying155 cForm Tryd.underlying9 Tryd.underlying3 strCells cInt ⟨rfl, rfl⟩ ⟨rfl, rfl⟩ ⟨rfl, rfl⟩ ⟨rfl, rfl⟩ ⟨rfl, rfl⟩ (laid_mem h hm)
  exact ⟨in_heap (hr 0 _ (fL_at ⟨0, by decide⟩)).1, fun n hn => (hr n _ (fL_at ⟨n, hn⟩)).1, fun n hn => (hr n _ (fL_at ⟨n, hn⟩)).2.1, fun n hn => (hr n _ (fL_at ⟨n, hn⟩)).2.2.1, fun n hn => (hr n _ (fL_at ⟨n, hn⟩)).2.2.2.1, fun n hn => (hr n _ (fL_at ⟨n, hn⟩)).2.2.2.2⟩
theorem code_of {l : List (String × DataW Unit)} {w : World} (h : laidMet Tryd.prog l w) (h1 : ∃ t, ("turnkey/api.ErrWord", DataW.iface "*errors.errorString" (.ptr (.agg [.lit (.string t)]))) ∈ l) (h2 : ∃ t, ("turnkey/api.ErrRange", DataW.iface "*errors.errorString" (.ptr (.agg [.lit (.string t)]))) ∈ l)
    (hf : ("turnkey/code.forms", DataW.agg (fL.map fun r => .agg [.lit (.string r.1), .lit (.int .i64 r.2.1), .lit (.int .i64 r.2.2.1), .lit (.int .i64 r.2.2.2.1), .lit (.int .i64 r.2.2.2.2)])) ∈ l) : CodeAt (errC (atErr w 1)) (errC (atErr w 3)) w := by
  obtain ⟨t1, h1⟩ := h1
  obtain ⟨t2, h2⟩ := h2
  have E := errs_are (gs := [1, 3]) h (by
    intro g hg
    simp at hg
    rcases hg with rfl | rfl
    · exact ⟨_, t1, h1, gErrWord, tErrWord⟩
    · exact ⟨_, t2, h2, gErrRange, tErrRange⟩)
  obtain ⟨s1, s2, -⟩ := E.1 1 (by simp)
  obtain ⟨r1, r2, -⟩ := E.1 3 (by simp)
  exact ⟨forms_of h hf, s1, s2, r1, r2⟩
theorem u32_fit {a : Int} (h : (Lit.int .u32 a).wf = true) : 0 ≤ a ∧ a ≤ 4294967295 := by simpa [Lit.wf, IntKind.min, IntKind.max, IntKind.signed, IntKind.bits] using h
theorem i64_fitC {a : Int} (h : (Lit.int .i64 a).wf = true) : -9223372036854775808 ≤ a ∧ a ≤ 9223372036854775807 := by simpa [Lit.wf, IntKind.min, IntKind.max, IntKind.signed, IntKind.bits] using h
end Go.Proofs.YtjkbfhojjjkgnaaDoor
namespace Go.Proofs.YtjkbfhojjjkgnaaDoor
open Go.ChangeShapes Go.WideShapes Go.ChangeAt Go.RowKit
set_option linter.unusedVariables false
set_option linter.unusedSimpArgs false
theorem SrcU.apart {w w' : World} {a : Option Addr} {xs : List Int} {B G : Nat} (h : SrcU w a xs B G) (hp : PBelow w w' B G) : SrcU w' a xs B G := ⟨fun j hj => by
  obtain ⟨ad, h1, h2, h3, h4, h5⟩ := h.src j hj
  refine ⟨ad, h1, Nat.lt_of_lt_of_le h2 hp.2.2.2.1, h3, h4, (World.cell?_of_block (a := ad.add j) ?_).trans h5⟩
  rw [add_block']
  exact hp.2.2.2.2 _ h2 h3 h4⟩
set_option maxRecDepth 100000 in
set_option maxHeartbeats 4000000 in
theorem smakepage_any {base : Nat} {S : SyS} {d : SyD} (a : Option Addr) (m c j : Nat) (zs : List Int) (hm32 : m ≤ 32) (HZl : Hid (zs.length = m)) (hj : j < S.m) (hm : S.m ≤ 256) (hyes : Hid (d.lP j = false ∧ d.dP j = false)) (hno : Hid (∀ i, i < j → (!d.lP i && !d.dP i) = false)) (w : World) (h : SyAt w base S d) (hs : SrcU w a zs S.gP S.bP) :
    Calls Tryd.prog 35 #[.pointer (some ⟨S.x, 0, none⟩), .slice a m c] w fun e w' => ∃ wP', e = .returned (.tuple #[.int .i64 j, .int .i64 0]) ∧ SyAt w' base S { d with lP := upd d.lP j true, wP := wP' } ∧ PBelow w w' S.gP S.bP := by
  have H := Lib.hid h
  have HS := Lib.hid hs
  have f1 := h.f1
  have j0 : (0 : Int) ≤ j := by omega
  have j1 : (j : Int) < S.m := by omega
  have dj : decide ((j : Int) < 0) = false := decide_eq_false (by omega)
  have dm : decide ((32 : Int) < (m : Int)) = false := decide_eq_false (by omega)
  clear h hs
  go_enter Tryd.func35, Tryd.ntmps35
  go_wp2_with (first
    | (go_at_call 54; (with_reducible refine (take_is j hj hm hyes hno _ H.out.ps).mono ?_); rintro e w1 ⟨rfl, hb⟩; have H1 := Lib.hid (H.out.below hb); have P1 := Lib.hid (PBelow.of_below (B := S.gP) (G := S.bP) hb); have g1 := H1.out.f1; have l1 := (H1.out.pslot j hj).1; have y1 := H1.out.ps.frozenAt (j * 4); have hs2 := H1.out.slotP j 0 hj (.bool true) (by decide) (upd d.lP j true) d.dP d.vP d.oP (fun a b _ _ => slW_live _ _ _ _ j true a b); rw [Nat.add_zero] at hs2; have H2 := Lib.hid hs2.1; have P2 := Lib.hid (P1.out.trans (PBelow.of (G := S.bP) hs2.2 (.inl rfl))); have g7 := H2.out.f7; have HTh := Lib.hid (H2.out.there j hj); clear hb f1 hs2)
    | (refine wpList_store_mid (by rfl) _ _ _ (by rfl) S.bP (j * 32) (#[Value.int .u32 0, Value.int .u32 0, Value.int .u32 0, Value.int .u32 0, Value.int .u32 0, Value.int .u32 0, Value.int .u32 0, Value.int .u32 0, Value.int .u32 0, Value.int .u32 0, Value.int .u32 0, Value.int .u32 0, Value.int .u32 0, Value.int .u32 0, Value.int .u32 0, Value.int .u32 0, Value.int .u32 0, Value.int .u32 0, Value.int .u32 0, Value.int .u32 0, Value.int .u32 0, Value.int .u32 0, Value.int .u32 0, Value.int .u32 0, Value.int .u32 0, Value.int .u32 0, Value.int .u32 0, Value.int .u32 0, Value.int .u32 0, Value.int .u32 0, Value.int .u32 0, Value.int .u32 0] : Array Value) (by rfl) (by rfl) HTh.out infoZW zw_one ?_; obtain ⟨w3, hw3⟩ : ∃ w3, w3 = (w1.setCell ⟨S.gP, j * 4, none⟩ (.bool true)).setCells S.bP (j * 32) ((#[Value.int .u32 0, Value.int .u32 0, Value.int .u32 0, Value.int .u32 0, Value.int .u32 0, Value.int .u32 0, Value.int .u32 0, Value.int .u32 0, Value.int .u32 0, Value.int .u32 0, Value.int .u32 0, Value.int .u32 0, Value.int .u32 0, Value.int .u32 0, Value.int .u32 0, Value.int .u32 0, Value.int .u32 0, Value.int .u32 0, Value.int .u32 0, Value.int .u32 0, Value.int .u32 0, Value.int .u32 0, Value.int .u32 0, Value.int .u32 0, Value.int .u32 0, Value.int .u32 0, Value.int .u32 0, Value.int .u32 0, Value.int .u32 0, Value.int .u32 0, Value.int .u32 0, Value.int .u32 0] : Array Value)).toList := ⟨_, rfl⟩; rw [← hw3]; have hs3 := H2.out.words j 0 hj (List.replicate 32 0) (by simp) (fun a b => if a = j ∧ 0 ≤ b ∧ b < 0 + (List.replicate 32 (0 : Int)).length then (List.replicate 32 (0 : Int)).getD (b - 0) 0 else d.wP a b) (fun a b _ hb => rfl); rw [Nat.add_zero, ← zw_list, ← hw3] at hs3; have H3 := Lib.hid hs3.1; have P3 := Lib.hid (P2.out.trans (PBelow.of (B := S.gP) hs3.2 (.inr rfl))); clear hw3 hs3))
  go_loopw [7] (fun z wr => ∃ (k : Nat) (wP : Nat → Nat → Int), k ≤ m ∧ z = .int .i64 k ∧ SyAt wr base S { d with lP := upd d.lP j true, wP := wP } ∧ PBelow w wr S.gP S.bP) (fun z _ => m - (intOf z).toNat)
  case atStart => exact ⟨0, _, by omega, rfl, H3.out, P3.out⟩
  case round =>
    obtain ⟨k, wP, hk, rfl, hs, hp⟩ := hrel
    have H4 := Lib.hid hs
    have P4 := Lib.hid hp
    have f7 := H4.out.f7
    clear hs hp H3 P3
    by_cases hkm : k < m
    · obtain ⟨ad, rfl, _, _, _, hc1⟩ := (HS.out.apart P4.out).src k (by rw [HZl.out]; exact hkm)
      obtain ⟨x, HX⟩ : ∃ x, Hid (zs.getD k 0 = x) := ⟨_, Lib.hid rfl⟩
      rw [HX.out] at hc1
      have k0 : (0 : Int) ≤ k := by omega
      have k1 : (k : Int) < m := by omega
      have k2 : (k : Int) < 32 := by omega
      have hk32 : k < 32 := by omega
      have c0 := H4.out.pword j k hj hk32
      have z0 := H4.out.pg.frozenAt (j * 32 + k)
      have hs5 := H4.out.words j k hj [x] (by simp; omega) _ (fun a b _ _ => rfl)
      have H5 := Lib.hid hs5.1
      have P5 := Lib.hid (P4.out.trans (PBelow.of (B := S.gP) hs5.2 (.inr rfl)))
      clear hs5
      go_wp2_with fail
      go_still_tail 12, (by kernel_rfl)
      change wpList _ _ _ _ _ wr.drew
      go_wp2_with fail
      go_roundw
      case rel => exact ⟨k + 1, _, by omega, by go_num, H5.out.below ((Below.refl _ _).drew), P5.out.trans (PBelow.of_below ((Below.refl _ _).drew))⟩
      case measure => simp [intOf]; omega
    · obtain rfl : k = m := by omega
      have hdd : decide (k < k) = false := by simp
      go_wp2_with fail
      go_ret2
      exact ⟨_, rfl, H4.out, P4.out⟩
theorem svalid_page (k1 : Int) (g1 : 0 ≤ k1) (g2 : k1 < 256) (w : World) :
    Calls Tryd.prog 55 #[Value.agg #[.int .i64 3, .int .i64 k1, .int .i64 0, .int .i64 0, .int .u32 0]] w fun e w' => e = .returned (.int .i64 0) ∧ Below w.heap.size w w' := by
  have d0 : decide (k1 < 0) = false := by rw [decide_eq_false_iff_not]; omega
  have d1 : decide (256 ≤ k1) = false := by rw [decide_eq_false_iff_not]; omega
  have hm : Hid (manyOf 3 = 256) := Lib.hid rfl
  go_enter Tryd.func55, Tryd.ntmps55
  go_wp2_with (first | (go_at_call 75; refine (many_is _ _ hm _).mono ?_; rintro e w' ⟨rfl, rfl⟩))
  go_quiet ((go_at_call 75; exact quiet_left (many_is _ _ hm _)))
  go_wp2
  go_ret
  exact ⟨rfl, below_drewN ((Below.refl _ _).alloc (Nat.le_refl _) _) _⟩
/-- Two pages' keys in a row. -/
def KK2 (w : World) (kb : Nat) : Prop := (w.cell? ⟨kb, 0, none⟩ = some (.int .i64 3) ∧ w.cell? ⟨kb, 1, none⟩ = some (.int .i64 0) ∧ w.cell? ⟨kb, 2, none⟩ = some (.int .i64 0) ∧ w.cell? ⟨kb, 3, none⟩ = some (.int .i64 0) ∧ w.cell? ⟨kb, 4, none⟩ = some (.int .u32 0)) ∧ (w.cell? ⟨kb, 5, none⟩ = some (.int .i64 3) ∧ w.cell? ⟨kb, 6, none⟩ = some (.int .i64 1) ∧ w.cell? ⟨kb, 7, none⟩ = some (.int .i64 0) ∧ w.cell? ⟨kb, 8, none⟩ = some (.int .i64 0) ∧ w.cell? ⟨kb, 9, none⟩ = some (.int .u32 0))
theorem KK2.same {w w' : World} {kb : Nat} (h : KK2 w kb) (e : w'.heap[kb]? = w.heap[kb]?) : KK2 w' kb := by
  have g : ∀ j, w'.cell? ⟨kb, j, none⟩ = w.cell? ⟨kb, j, none⟩ := fun j => World.cell?_of_block (a := ⟨kb, j, none⟩) e
  unfold KK2
  simp only [g]
  exact h
set_option maxRecDepth 100000 in
set_option maxHeartbeats 8000000 in
theorem smakenode2 {base : Nat} {S : SyS} {d : SyD} (kb j : Nat) (hj : j < S.n) (hn : S.n ≤ 256) (hyes : Hid (d.lN j = false ∧ d.dN j = false)) (hno : Hid (∀ i, i < j → (!d.lN i && !d.dN i) = false)) (w : World) (h : SyAt w base S d) (hkb : kb < w.heap.size) (hne : Hid (kb ≠ S.gN ∧ kb ≠ S.bN)) (hk : KK2 w kb) :
    Calls Tryd.prog 36 #[.pointer (some ⟨S.x, 0, none⟩), .slice (some ⟨kb, 0, none⟩) 2 2] w fun e w' => ∃ wN', e = .returned (.tuple #[.int .i64 j, .int .i64 0]) ∧ SyAt w' base S { d with lN := upd d.lN j true, wN := wN' } ∧ PBelow w w' S.gN S.bN := by
  have H := Lib.hid h
  have HK := Lib.hid hk
  have j0 : (0 : Int) ≤ j := by omega
  have j1 : (j : Int) < S.n := by omega
  have dj : decide ((j : Int) < 0) = false := decide_eq_false (by omega)
  clear h hk
  go_enter Tryd.func36, Tryd.ntmps36
  go_wp2_with fail
  go_loopw [6] (fun z wr => ∃ k : Nat, k ≤ 2 ∧ z = .int .i64 k ∧ Below w.heap.size w wr) (fun z _ => 2 - (intOf z).toNat)
  case atStart => exact ⟨0, by omega, rfl, Below.refl _ _⟩
  case round =>
    obtain ⟨k, hk, rfl, hbl⟩ := hrel
    have HB := Lib.hid hbl
    have HKr := Lib.hid (HK.out.same (hbl.block kb hkb))
    obtain ⟨⟨q0, q1, q2, q3, q4⟩, ⟨q5, q6, q7, q8, q9⟩⟩ := HKr.out
    clear hbl
    have k3 : k = 0 ∨ k = 1 ∨ k = 2 := by omega
    rcases k3 with rfl | rfl | rfl
    · clear q5 q6 q7 q8 q9
      go_wp2_with (first
        | (go_at_call 55; (with_reducible refine (svalid_page 0 (by decide) (by decide) _).mono ?_); rintro e w1 ⟨rfl, hb⟩; have HB1 := Lib.hid (HB.out.trans (hb.mono HB.out.size)); clear hb))
      go_roundw
      case rel => exact ⟨1, by omega, rfl, HB1.out⟩
      case measure => simp [intOf]
    · clear q0 q1 q2 q3 q4
      go_wp2_with (first
        | (go_at_call 55; (with_reducible refine (svalid_page 1 (by decide) (by decide) _).mono ?_); rintro e w1 ⟨rfl, hb⟩; have HB1 := Lib.hid (HB.out.trans (hb.mono HB.out.size)); clear hb))
      go_roundw
      case rel => exact ⟨2, by omega, rfl, HB1.out⟩
      case measure => simp [intOf]
    · clear q0 q1 q2 q3 q4 q5 q6 q7 q8 q9
      have HR := Lib.hid (H.out.below HB.out)
      have f1 := HR.out.f0
      go_wp2_with (first
        | (go_at_call 54; (with_reducible refine (take_is j hj hn hyes hno _ HR.out.ns).mono ?_); rintro e w1 ⟨rfl, hb⟩; have H1 := Lib.hid (HR.out.below hb); have P1 := Lib.hid ((PBelow.of_below (B := S.gN) (G := S.bN) HB.out).trans (PBelow.of_below (B := S.gN) (G := S.bN) hb)); have g1 := H1.out.f0; have l1 := (H1.out.nslot j hj).1; have y1 := H1.out.ns.frozenAt (j * 4); have hs2 := H1.out.slotN j 0 hj (.bool true) (by decide) (upd d.lN j true) d.dN d.vN d.oN (fun a b _ _ => slW_live _ _ _ _ j true a b); rw [Nat.add_zero] at hs2; have H2 := Lib.hid hs2.1; have P2 := Lib.hid (P1.out.trans (PBelow.of (G := S.bN) hs2.2 (.inl rfl))); have g7 := H2.out.f6; have HTh := Lib.hid (H2.out.thereN j hj); clear hb f1 hs2)
        | (refine wpList_store_mid (by rfl) _ _ _ (by rfl) S.bN (j * 80) zs80.toArray (by rfl) (by rfl) HTh.out infoZK zk_one ?_; obtain ⟨w3, hw3⟩ : ∃ w3, w3 = (w1.setCell ⟨S.gN, j * 4, none⟩ (.bool true)).setCells S.bN (j * 80) (zs80.toArray).toList := ⟨_, rfl⟩; rw [← hw3]; have hs3 := H2.out.keys j 0 hj zs80 (by rw [zs80_len]; omega); rw [Nat.add_zero, ← zk_list, ← hw3] at hs3; have H3 := Lib.hid hs3.1; have P3 := Lib.hid (P2.out.trans (PBelow.of (B := S.gN) hs3.2 (.inr rfl))); clear hw3 hs3))
      go_loopw [9] (fun z wr => ∃ (k : Nat) (wN : Nat → Nat → Value), k ≤ 2 ∧ z = .int .i64 k ∧ SyAt wr base S { d with lN := upd d.lN j true, wN := wN } ∧ PBelow w wr S.gN S.bN) (fun z _ => 2 - (intOf z).toNat)
      case atStart => exact ⟨0, _, by omega, rfl, H3.out, P3.out⟩
      case round =>
        obtain ⟨k, wN, hk, rfl, hs, hp⟩ := hrel
        have H4 := Lib.hid hs
        have P4 := Lib.hid hp
        have HK4 := Lib.hid (HK.out.same (hp.2.2.2.2 kb hkb hne.out.1 hne.out.2))
        obtain ⟨⟨q0, q1, q2, q3, q4⟩, ⟨q5, q6, q7, q8, q9⟩⟩ := HK4.out
        have f6 := H4.out.f6
        clear hs hp H3 P3
        have k3 : k = 0 ∨ k = 1 ∨ k = 2 := by omega
        rcases k3 with rfl | rfl | rfl
        · have HD := Lib.hid (H4.out.below (Below.refl wr.heap.size wr).drew)
          have HKd : Hid (KK2 wr.drew kb) := Lib.hid (HK4.out.same rfl)
          have HTh : Hid (World.there wr.drew S.bN (j * 80) 5) := Lib.hid (fun q hq => by have h := HD.out.thereN j hj (0 + q) (by omega); rw [← Nat.add_assoc] at h; simpa using h)
          have hd2 : (2 : Int) ≤ 16 := by decide
          clear q0 q1 q2 q3 q4 q5 q6 q7 q8 q9
          go_upto_region 17 with fail
          refine wp_region_noPanic ?_
          refine wp_region_held_drew (S := fun w' => World.cell? w' ⟨S.x, 6, none⟩ = some (.slice (some ⟨S.bN, 0, none⟩) S.n S.n) ∧ World.cell? w' ⟨kb, 0, none⟩ = some (.int .i64 3) ∧ World.cell? w' ⟨kb, 1, none⟩ = some (.int .i64 0) ∧ World.cell? w' ⟨kb, 2, none⟩ = some (.int .i64 0) ∧ World.cell? w' ⟨kb, 3, none⟩ = some (.int .i64 0) ∧ World.cell? w' ⟨kb, 4, none⟩ = some (.int .u32 0)) (by kernel_rfl) ⟨HD.out.f6, HKd.out.1.1, HKd.out.1.2.1, HKd.out.1.2.2.1, HKd.out.1.2.2.2.1, HKd.out.1.2.2.2.2⟩ (fun hHeld => ?_)
          refine wpAnyH_take (i := 0) (v := ?_) (by rfl) (by kernel_rfl) (by kernel_rfl) (by kernel_rfl) (fun _ _ _ h => h) (Or.inl ⟨by kernel_rfl, ?_⟩) (by assumption) ?_; rotate_left 1; (focus (intro w hSw; (try dsimp only at hSw); simp only [List.getElem_toArray, List.getElem_cons_succ, List.getElem_cons_zero]; all_goals go_simp; all_goals (try with_reducible rfl))); (try simp only [Act.put, List.getElem_toArray, List.getElem_cons_succ, List.getElem_cons_zero, List.setIfInBounds_toArray, List.set_cons_zero, List.set_cons_succ])
          refine wpAnyH_take (i := 1) (v := ?_) (by rfl) (by kernel_rfl) (by kernel_rfl) (by kernel_rfl) (fun _ _ _ h => h) (Or.inl ⟨by kernel_rfl, ?_⟩) (by assumption) ?_; rotate_left 1; (focus (intro w hSw; (try dsimp only at hSw); simp only [List.getElem_toArray, List.getElem_cons_succ, List.getElem_cons_zero]; all_goals go_simp; all_goals (try with_reducible rfl))); (try simp only [Act.put, List.getElem_toArray, List.getElem_cons_succ, List.getElem_cons_zero, List.setIfInBounds_toArray, List.set_cons_zero, List.set_cons_succ])
          refine wpAnyH_take (i := 2) (v := ?_) (by rfl) (by kernel_rfl) (by kernel_rfl) (by kernel_rfl) (fun _ _ _ h => h) (Or.inl ⟨by kernel_rfl, ?_⟩) (by assumption) ?_; rotate_left 1; (focus (intro w hSw; (try dsimp only at hSw); simp only [List.getElem_toArray, List.getElem_cons_succ, List.getElem_cons_zero]; all_goals go_simp; all_goals (try with_reducible rfl))); (try simp only [Act.put, List.getElem_toArray, List.getElem_cons_succ, List.getElem_cons_zero, List.setIfInBounds_toArray, List.set_cons_zero, List.set_cons_succ])
          refine wpAnyH_take (i := 3) (v := ?_) (by rfl) (by kernel_rfl) (by kernel_rfl) (by kernel_rfl) (fun _ _ _ h => h) (Or.inl ⟨by kernel_rfl, ?_⟩) (by assumption) ?_; rotate_left 1; (focus (intro w hSw; (try dsimp only at hSw); simp only [List.getElem_toArray, List.getElem_cons_succ, List.getElem_cons_zero]; all_goals go_simp; all_goals (try with_reducible rfl))); (try simp only [Act.put, List.getElem_toArray, List.getElem_cons_succ, List.getElem_cons_zero, List.setIfInBounds_toArray, List.set_cons_zero, List.set_cons_succ])
          refine wpAnyH_take (i := 4) (v := ?_) (by rfl) (by kernel_rfl) (by kernel_rfl) (by kernel_rfl) (fun _ _ _ h => h) (Or.inl ⟨by kernel_rfl, ?_⟩) (by assumption) ?_; rotate_left 1; (focus (intro w hSw; (try dsimp only at hSw); simp only [List.getElem_toArray, List.getElem_cons_succ, List.getElem_cons_zero]; all_goals go_simp; all_goals (try with_reducible rfl))); (try simp only [Act.put, List.getElem_toArray, List.getElem_cons_succ, List.getElem_cons_zero, List.setIfInBounds_toArray, List.set_cons_zero, List.set_cons_succ])
          refine wpAnyH_take (i := 5) (v := ?_) (by rfl) (by kernel_rfl) (by kernel_rfl) (by kernel_rfl) (fun _ _ _ h => h) (Or.inl ⟨by kernel_rfl, ?_⟩) (by assumption) ?_; rotate_left 1; (focus (intro w hSw; (try dsimp only at hSw); simp only [List.getElem_toArray, List.getElem_cons_succ, List.getElem_cons_zero]; all_goals go_simp; all_goals (try with_reducible rfl))); (try simp only [Act.put, List.getElem_toArray, List.getElem_cons_succ, List.getElem_cons_zero, List.setIfInBounds_toArray, List.set_cons_zero, List.set_cons_succ])
          refine wpAnyH_take (i := 6) (v := ?_) (by rfl) (by kernel_rfl) (by kernel_rfl) (by kernel_rfl) (fun _ _ _ h => h) (Or.inl ⟨by kernel_rfl, ?_⟩) (by assumption) ?_; rotate_left 1; (focus (intro w hSw; (try dsimp only at hSw); simp only [List.getElem_toArray, List.getElem_cons_succ, List.getElem_cons_zero]; all_goals go_simp; all_goals (try with_reducible rfl))); (try simp only [Act.put, List.getElem_toArray, List.getElem_cons_succ, List.getElem_cons_zero, List.setIfInBounds_toArray, List.set_cons_zero, List.set_cons_succ])
          refine wpAnyH_take (i := 7) (v := ?_) (by rfl) (by kernel_rfl) (by kernel_rfl) (by kernel_rfl) (fun _ _ _ h => h) (Or.inl ⟨by kernel_rfl, ?_⟩) (by assumption) ?_; rotate_left 1; (focus (intro w hSw; (try dsimp only at hSw); simp only [List.getElem_toArray, List.getElem_cons_succ, List.getElem_cons_zero]; all_goals go_simp; all_goals (try with_reducible rfl))); (try simp only [Act.put, List.getElem_toArray, List.getElem_cons_succ, List.getElem_cons_zero, List.setIfInBounds_toArray, List.set_cons_zero, List.set_cons_succ])
          refine wpAnyH_take (i := 8) (v := ?_) (by rfl) (by kernel_rfl) (by kernel_rfl) (by kernel_rfl) (fun _ _ _ h => h) (Or.inl ⟨by kernel_rfl, ?_⟩) (by assumption) ?_; rotate_left 1; (focus (intro w hSw; (try dsimp only at hSw); simp only [List.getElem_toArray, List.getElem_cons_succ, List.getElem_cons_zero]; all_goals go_simp; all_goals (try with_reducible rfl))); (try simp only [Act.put, List.getElem_toArray, List.getElem_cons_succ, List.getElem_cons_zero, List.setIfInBounds_toArray, List.set_cons_zero, List.set_cons_succ])
          refine wpAnyH_take (i := 9) (v := ?_) (by rfl) (by kernel_rfl) (by kernel_rfl) (by kernel_rfl) (fun _ _ _ h => h) (Or.inl ⟨by kernel_rfl, ?_⟩) (by assumption) ?_; rotate_left 1; (focus (intro w hSw; (try dsimp only at hSw); simp only [List.getElem_toArray, List.getElem_cons_succ, List.getElem_cons_zero]; all_goals go_simp; all_goals (try with_reducible rfl))); (try simp only [Act.put, List.getElem_toArray, List.getElem_cons_succ, List.getElem_cons_zero, List.setIfInBounds_toArray, List.set_cons_zero, List.set_cons_succ])
          refine wpAnyH_take (i := 10) (v := ?_) (by rfl) (by kernel_rfl) (by kernel_rfl) (by kernel_rfl) (fun _ _ _ h => h) (Or.inl ⟨by kernel_rfl, ?_⟩) (by assumption) ?_; rotate_left 1; (focus (intro w hSw; (try dsimp only at hSw); simp only [List.getElem_toArray, List.getElem_cons_succ, List.getElem_cons_zero]; all_goals go_simp; all_goals (try with_reducible rfl))); (try simp only [Act.put, List.getElem_toArray, List.getElem_cons_succ, List.getElem_cons_zero, List.setIfInBounds_toArray, List.set_cons_zero, List.set_cons_succ])
          refine wpAnyH_take (i := 11) (v := ?_) (by rfl) (by kernel_rfl) (by kernel_rfl) (by kernel_rfl) (fun _ _ _ h => h) (Or.inl ⟨by kernel_rfl, ?_⟩) (by assumption) ?_; rotate_left 1; (focus (intro w hSw; (try dsimp only at hSw); simp only [List.getElem_toArray, List.getElem_cons_succ, List.getElem_cons_zero]; all_goals go_simp; all_goals (try with_reducible rfl))); (try simp only [Act.put, List.getElem_toArray, List.getElem_cons_succ, List.getElem_cons_zero, List.setIfInBounds_toArray, List.set_cons_zero, List.set_cons_succ])
          refine wpAnyH_ready (rs := [12]) (by kernel_rfl) (by simp) ?_; refine AllReadyH.cons (by rfl) (fun K hK => ?_) AllReadyH.nil; rw [if_pos (by kernel_rfl)]; simp only [List.getElem_toArray, List.getElem_cons_succ, List.getElem_cons_zero]
          refine wp_store_mid _ _ _ (by rfl) S.bN (j * 80) #[.int .i64 3, .int .i64 0, .int .i64 0, .int .i64 0, .int .u32 0] (by rfl) (by rfl) HTh.out infoKey5 (by simp [Value.oneCell']) ?_
          have hs5 := HD.out.keys j 0 hj (k5 3 0 0 0 0) (by simp [k5])
          rw [Nat.add_zero] at hs5
          have H5 := Lib.hid hs5.1
          have P5 := Lib.hid ((P4.out.trans (PBelow.of_below (Below.refl _ _).drew)).trans (PBelow.of (B := S.gN) hs5.2 (.inr rfl)))
          have HK5 := Lib.hid (HKd.out.same (hs5.2.block kb (by have := P4.out.2.2.2.1; exact Nat.lt_of_lt_of_le hkb this) (fun e => hne.out.2 (by injection e))))
          clear hs5
          refine hK.out _ (World.setCells wr.drew S.bN (j * 80) (k5 3 0 0 0 0)) ⟨H5.out.f6, HK5.out.1.1, HK5.out.1.2.1, HK5.out.1.2.2.1, HK5.out.1.2.2.2.1, HK5.out.1.2.2.2.2⟩ (fun hHeld => ?_)
          clear hK K
          (try simp only [Act.put, List.getElem_toArray, List.getElem_cons_succ, List.getElem_cons_zero, List.setIfInBounds_toArray, List.set_cons_zero, List.set_cons_succ])
          refine wpAnyH_done (by kernel_rfl) ?_ _
          refine NoPanic.normal ?_
          go_wp2_with fail
          go_roundw
          case rel => exact ⟨1, _, by omega, rfl, H5.out, P5.out⟩
          case measure => simp [intOf]
        · have HD := Lib.hid (H4.out.below (Below.refl wr.heap.size wr).drew)
          have HKd : Hid (KK2 wr.drew kb) := Lib.hid (HK4.out.same rfl)
          have HTh : Hid (World.there wr.drew S.bN (j * 80 + 5) 5) := Lib.hid (fun q hq => by have h := HD.out.thereN j hj (5 + q) (by omega); rw [← Nat.add_assoc] at h; simpa using h)
          have hd2 : (2 : Int) ≤ 16 := by decide
          clear q0 q1 q2 q3 q4 q5 q6 q7 q8 q9
          go_upto_region 17 with fail
          refine wp_region_noPanic ?_
          refine wp_region_held_drew (S := fun w' => World.cell? w' ⟨S.x, 6, none⟩ = some (.slice (some ⟨S.bN, 0, none⟩) S.n S.n) ∧ World.cell? w' ⟨kb, 5, none⟩ = some (.int .i64 3) ∧ World.cell? w' ⟨kb, 6, none⟩ = some (.int .i64 1) ∧ World.cell? w' ⟨kb, 7, none⟩ = some (.int .i64 0) ∧ World.cell? w' ⟨kb, 8, none⟩ = some (.int .i64 0) ∧ World.cell? w' ⟨kb, 9, none⟩ = some (.int .u32 0)) (by kernel_rfl) ⟨HD.out.f6, HKd.out.2.1, HKd.out.2.2.1, HKd.out.2.2.2.1, HKd.out.2.2.2.2.1, HKd.out.2.2.2.2.2⟩ (fun hHeld => ?_)
          refine wpAnyH_take (i := 0) (v := ?_) (by rfl) (by kernel_rfl) (by kernel_rfl) (by kernel_rfl) (fun _ _ _ h => h) (Or.inl ⟨by kernel_rfl, ?_⟩) (by assumption) ?_; rotate_left 1; (focus (intro w hSw; (try dsimp only at hSw); simp only [List.getElem_toArray, List.getElem_cons_succ, List.getElem_cons_zero]; all_goals go_simp; all_goals (try with_reducible rfl))); (try simp only [Act.put, List.getElem_toArray, List.getElem_cons_succ, List.getElem_cons_zero, List.setIfInBounds_toArray, List.set_cons_zero, List.set_cons_succ])
          refine wpAnyH_take (i := 1) (v := ?_) (by rfl) (by kernel_rfl) (by kernel_rfl) (by kernel_rfl) (fun _ _ _ h => h) (Or.inl ⟨by kernel_rfl, ?_⟩) (by assumption) ?_; rotate_left 1; (focus (intro w hSw; (try dsimp only at hSw); simp only [List.getElem_toArray, List.getElem_cons_succ, List.getElem_cons_zero]; all_goals go_simp; all_goals (try with_reducible rfl))); (try simp only [Act.put, List.getElem_toArray, List.getElem_cons_succ, List.getElem_cons_zero, List.setIfInBounds_toArray, List.set_cons_zero, List.set_cons_succ])
          refine wpAnyH_take (i := 2) (v := ?_) (by rfl) (by kernel_rfl) (by kernel_rfl) (by kernel_rfl) (fun _ _ _ h => h) (Or.inl ⟨by kernel_rfl, ?_⟩) (by assumption) ?_; rotate_left 1; (focus (intro w hSw; (try dsimp only at hSw); simp only [List.getElem_toArray, List.getElem_cons_succ, List.getElem_cons_zero]; all_goals go_simp; all_goals (try with_reducible rfl))); (try simp only [Act.put, List.getElem_toArray, List.getElem_cons_succ, List.getElem_cons_zero, List.setIfInBounds_toArray, List.set_cons_zero, List.set_cons_succ])
          refine wpAnyH_take (i := 3) (v := ?_) (by rfl) (by kernel_rfl) (by kernel_rfl) (by kernel_rfl) (fun _ _ _ h => h) (Or.inl ⟨by kernel_rfl, ?_⟩) (by assumption) ?_; rotate_left 1; (focus (intro w hSw; (try dsimp only at hSw); simp only [List.getElem_toArray, List.getElem_cons_succ, List.getElem_cons_zero]; all_goals go_simp; all_goals (try with_reducible rfl))); (try simp only [Act.put, List.getElem_toArray, List.getElem_cons_succ, List.getElem_cons_zero, List.setIfInBounds_toArray, List.set_cons_zero, List.set_cons_succ])
          refine wpAnyH_take (i := 4) (v := ?_) (by rfl) (by kernel_rfl) (by kernel_rfl) (by kernel_rfl) (fun _ _ _ h => h) (Or.inl ⟨by kernel_rfl, ?_⟩) (by assumption) ?_; rotate_left 1; (focus (intro w hSw; (try dsimp only at hSw); simp only [List.getElem_toArray, List.getElem_cons_succ, List.getElem_cons_zero]; all_goals go_simp; all_goals (try with_reducible rfl))); (try simp only [Act.put, List.getElem_toArray, List.getElem_cons_succ, List.getElem_cons_zero, List.setIfInBounds_toArray, List.set_cons_zero, List.set_cons_succ])
          refine wpAnyH_take (i := 5) (v := ?_) (by rfl) (by kernel_rfl) (by kernel_rfl) (by kernel_rfl) (fun _ _ _ h => h) (Or.inl ⟨by kernel_rfl, ?_⟩) (by assumption) ?_; rotate_left 1; (focus (intro w hSw; (try dsimp only at hSw); simp only [List.getElem_toArray, List.getElem_cons_succ, List.getElem_cons_zero]; all_goals go_simp; all_goals (try with_reducible rfl))); (try simp only [Act.put, List.getElem_toArray, List.getElem_cons_succ, List.getElem_cons_zero, List.setIfInBounds_toArray, List.set_cons_zero, List.set_cons_succ])
          refine wpAnyH_take (i := 6) (v := ?_) (by rfl) (by kernel_rfl) (by kernel_rfl) (by kernel_rfl) (fun _ _ _ h => h) (Or.inl ⟨by kernel_rfl, ?_⟩) (by assumption) ?_; rotate_left 1; (focus (intro w hSw; (try dsimp only at hSw); simp only [List.getElem_toArray, List.getElem_cons_succ, List.getElem_cons_zero]; all_goals go_simp; all_goals (try with_reducible rfl))); (try simp only [Act.put, List.getElem_toArray, List.getElem_cons_succ, List.getElem_cons_zero, List.setIfInBounds_toArray, List.set_cons_zero, List.set_cons_succ])
          refine wpAnyH_take (i := 7) (v := ?_) (by rfl) (by kernel_rfl) (by kernel_rfl) (by kernel_rfl) (fun _ _ _ h => h) (Or.inl ⟨by kernel_rfl, ?_⟩) (by assumption) ?_; rotate_left 1; (focus (intro w hSw; (try dsimp only at hSw); simp only [List.getElem_toArray, List.getElem_cons_succ, List.getElem_cons_zero]; all_goals go_simp; all_goals (try with_reducible rfl))); (try simp only [Act.put, List.getElem_toArray, List.getElem_cons_succ, List.getElem_cons_zero, List.setIfInBounds_toArray, List.set_cons_zero, List.set_cons_succ])
          refine wpAnyH_take (i := 8) (v := ?_) (by rfl) (by kernel_rfl) (by kernel_rfl) (by kernel_rfl) (fun _ _ _ h => h) (Or.inl ⟨by kernel_rfl, ?_⟩) (by assumption) ?_; rotate_left 1; (focus (intro w hSw; (try dsimp only at hSw); simp only [List.getElem_toArray, List.getElem_cons_succ, List.getElem_cons_zero]; all_goals go_simp; all_goals (try with_reducible rfl))); (try simp only [Act.put, List.getElem_toArray, List.getElem_cons_succ, List.getElem_cons_zero, List.setIfInBounds_toArray, List.set_cons_zero, List.set_cons_succ])
          refine wpAnyH_take (i := 9) (v := ?_) (by rfl) (by kernel_rfl) (by kernel_rfl) (by kernel_rfl) (fun _ _ _ h => h) (Or.inl ⟨by kernel_rfl, ?_⟩) (by assumption) ?_; rotate_left 1; (focus (intro w hSw; (try dsimp only at hSw); simp only [List.getElem_toArray, List.getElem_cons_succ, List.getElem_cons_zero]; all_goals go_simp; all_goals (try with_reducible rfl))); (try simp only [Act.put, List.getElem_toArray, List.getElem_cons_succ, List.getElem_cons_zero, List.setIfInBounds_toArray, List.set_cons_zero, List.set_cons_succ])
          refine wpAnyH_take (i := 10) (v := ?_) (by rfl) (by kernel_rfl) (by kernel_rfl) (by kernel_rfl) (fun _ _ _ h => h) (Or.inl ⟨by kernel_rfl, ?_⟩) (by assumption) ?_; rotate_left 1; (focus (intro w hSw; (try dsimp only at hSw); simp only [List.getElem_toArray, List.getElem_cons_succ, List.getElem_cons_zero]; all_goals go_simp; all_goals (try with_reducible rfl))); (try simp only [Act.put, List.getElem_toArray, List.getElem_cons_succ, List.getElem_cons_zero, List.setIfInBounds_toArray, List.set_cons_zero, List.set_cons_succ])
          refine wpAnyH_take (i := 11) (v := ?_) (by rfl) (by kernel_rfl) (by kernel_rfl) (by kernel_rfl) (fun _ _ _ h => h) (Or.inl ⟨by kernel_rfl, ?_⟩) (by assumption) ?_; rotate_left 1; (focus (intro w hSw; (try dsimp only at hSw); simp only [List.getElem_toArray, List.getElem_cons_succ, List.getElem_cons_zero]; all_goals go_simp; all_goals (try with_reducible rfl))); (try simp only [Act.put, List.getElem_toArray, List.getElem_cons_succ, List.getElem_cons_zero, List.setIfInBounds_toArray, List.set_cons_zero, List.set_cons_succ])
          refine wpAnyH_ready (rs := [12]) (by kernel_rfl) (by simp) ?_; refine AllReadyH.cons (by rfl) (fun K hK => ?_) AllReadyH.nil; rw [if_pos (by kernel_rfl)]; simp only [List.getElem_toArray, List.getElem_cons_succ, List.getElem_cons_zero]
          refine wp_store_mid _ _ _ (by rfl) S.bN (j * 80 + 5) #[.int .i64 3, .int .i64 1, .int .i64 0, .int .i64 0, .int .u32 0] (by rfl) (by rfl) HTh.out infoKey5 (by simp [Value.oneCell']) ?_
          have hs5 := HD.out.keys j 5 hj (k5 3 1 0 0 0) (by simp [k5])
          skip
          have H5 := Lib.hid hs5.1
          have P5 := Lib.hid ((P4.out.trans (PBelow.of_below (Below.refl _ _).drew)).trans (PBelow.of (B := S.gN) hs5.2 (.inr rfl)))
          have HK5 := Lib.hid (HKd.out.same (hs5.2.block kb (by have := P4.out.2.2.2.1; exact Nat.lt_of_lt_of_le hkb this) (fun e => hne.out.2 (by injection e))))
          clear hs5
          refine hK.out _ (World.setCells wr.drew S.bN (j * 80 + 5) (k5 3 1 0 0 0)) ⟨H5.out.f6, HK5.out.2.1, HK5.out.2.2.1, HK5.out.2.2.2.1, HK5.out.2.2.2.2.1, HK5.out.2.2.2.2.2⟩ (fun hHeld => ?_)
          clear hK K
          (try simp only [Act.put, List.getElem_toArray, List.getElem_cons_succ, List.getElem_cons_zero, List.setIfInBounds_toArray, List.set_cons_zero, List.set_cons_succ])
          refine wpAnyH_done (by kernel_rfl) ?_ _
          refine NoPanic.normal ?_
          go_wp2_with fail
          go_roundw
          case rel => exact ⟨2, _, by omega, rfl, H5.out, P5.out⟩
          case measure => simp [intOf]
        · go_wp2_with fail
          go_ret2
          exact ⟨_, rfl, H4.out, P4.out⟩
end Go.Proofs.YtjkbfhojjjkgnaaDoor
namespace Go.Proofs.YtjkbfhojjjkgnaaDoor
open Go.ChangeShapes Go.WideShapes Go.ChangeAt Go.RowKit
set_option linter.unusedVariables false
set_option linter.unusedSimpArgs false
/-- One cell of a domain anew. -/
def updD (f : Nat → Value) (j : Nat) (u : Value) : Nat → Value := fun i => if i = j then u else f i
theorem updD_at (f : Nat → Value) (j : Nat) (u : Value) : updD f j u j = u := if_pos rfl
theorem updD_other (f : Nat → Value) (j i : Nat) (u : Value) (h : i ≠ j) : updD f j u i = f i := if_neg h
/-- A domain's cells. -/
structure DomAt (w : World) (db : Nat) (f : Nat → Value) : Prop where
  lt : db < w.heap.size
  c : ∀ j, j < 107 → w.cell? ⟨db, j, none⟩ = some (f j)
  fr : ∀ j, w.frozen? ⟨db, j, none⟩ = false
theorem DomAt.same {w w' : World} {db : Nat} {f : Nat → Value} (h : DomAt w db f) (hs : w.heap.size ≤ w'.heap.size) (e : w'.heap[db]? = w.heap[db]?) : DomAt w' db f :=
  ⟨Nat.lt_of_lt_of_le h.lt hs, fun j hj => (World.cell?_of_block (a := ⟨db, j, none⟩) e).trans (h.c j hj), fun j => (World.frozen?_of_block (a := ⟨db, j, none⟩) e).trans (h.fr j)⟩
theorem DomAt.below {w w' : World} {db : Nat} {f : Nat → Value} (h : DomAt w db f) (hb : Below w.heap.size w w') : DomAt w' db f := h.same hb.size (hb.block _ h.lt)
theorem DomAt.set {w : World} {db : Nat} {f : Nat → Value} (h : DomAt w db f) (q : Nat) (u : Value) (hq : q < 107) : DomAt (w.setCell ⟨db, q, none⟩ u) db (updD f q u) := by
  refine ⟨by simpa using h.lt, fun j hj => ?_, fun j => by simpa using h.fr j⟩
  unfold updD
  by_cases e : j = q
  · subst e; rw [if_pos rfl]; exact World.cell?_setCell_same _ _ _ (h.c j hj)
  · rw [if_neg e, World.cell?_setCell_other _ _ _ _ (by simp [e])]; exact h.c j hj
theorem DomAt.congr {w : World} {db : Nat} {f g : Nat → Value} (h : DomAt w db f) (e : ∀ j, j < 107 → f j = g j) : DomAt w db g := ⟨h.lt, fun j hj => (h.c j hj).trans (congrArg some (e j hj)), h.fr⟩
/-- A block apart from a memory: ahead of it, or behind. -/
def ApD (w0 : World) (a : Shp) (N mb cb : Nat) (v : Value) (E : List EW) (db : Nat) : Prop := (w0.heap.size ≤ db ∧ db < a.b ∧ db < N) ∨ (N ≤ db ∧ OutC cb v db ∧ mb ≠ db ∧ NoNode E db)
/-- The first blocks of a world. -/
def cutW (w : World) (M : Nat) : World := { w with heap := w.heap.extract 0 M }
theorem cutW_size (w : World) (M : Nat) (h : M ≤ w.heap.size) : (cutW w M).heap.size = M := by simp [cutW]; omega
theorem cutW_get (w : World) (M k : Nat) (h : M ≤ w.heap.size) (hk : k < M) : (cutW w M).heap[k]? = w.heap[k]? := by
  simp [cutW, Array.getElem?_extract, hk]
  intro _
  omega
theorem cutW_below (w : World) (M : Nat) (h : M ≤ w.heap.size) : Below (cutW w M).heap.size (cutW w M) w :=
  ⟨rfl, rfl, rfl, by rw [cutW_size w M h]; exact h, fun k hk => by rw [cutW_size w M h] at hk; exact (cutW_get w M k h hk).symm⟩
theorem cutW_over {w0 w : World} (M : Nat) (h : M ≤ w.heap.size) (hM : w0.heap.size ≤ M) (hb : Below w0.heap.size w0 w) : Below w0.heap.size w0 (cutW w M) :=
  ⟨hb.os, hb.tape, hb.output, by rw [cutW_size w M h]; exact hM, fun k hk => (cutW_get w M k h (by omega)).trans (hb.block k hk)⟩
section
variable {w w' : World}
theorem MemAt.cut {w0 : World} {mb S : Nat} {a b : Shp} {N cb : Nat} {size : Int} {th : Nat → Bool} {vr_ : Nat → Int} {W : Nat → Nat → Value} {th2 : Nat → Bool} {vr2 : Nat → Int} {W2 : Nat → Nat → Int} {hits : Int} {v : Value} {E : List EW} (h : (MemAt w0 w mb S a b N cb size th vr_ W th2 vr2 W2 hits v E)) (M : Nat) (h1 : M ≤ a.b) (h2 : M ≤ N) : MemAt (cutW w M) w mb S a b N cb size th vr_ W th2 vr2 W2 hits v E := by
  have hM : M ≤ w.heap.size := Nat.le_trans h2 h.nN
  have hz := cutW_size w M hM
  exact ⟨⟨cutW_below w M hM, by rw [hz]; exact h1, h.sv.st⟩, h.lo, by rw [hz]; exact h2, h.nN, h.m0, h.m1, h.ml, h.mn, h.mo, h.ca, h.ok⟩
/-- A block apart is written. -/
theorem MemAt.putD {w0 : World} {mb S : Nat} {a b : Shp} {N cb : Nat} {size : Int} {th : Nat → Bool} {vr_ : Nat → Int} {W : Nat → Nat → Value} {th2 : Nat → Bool} {vr2 : Nat → Int} {W2 : Nat → Nat → Int} {hits : Int} {v : Value} {E : List EW} (h : (MemAt w0 w mb S a b N cb size th vr_ W th2 vr2 W2 hits v E)) {db : Nat} (ha : ApD w0 a N mb cb v E db) (j : Nat) (u : Value) : (MemAt w0 (w.setCell ⟨db, j, none⟩ u) mb S a b N cb size th vr_ W th2 vr2 W2 hits v E) := by
  rcases ha with ⟨g0, g1, g2⟩ | ⟨g0, g1, g2, g3⟩
  · have e := set_heap w db mb j u (by have := h.mn; omega)
    exact ⟨⟨h.sv.bel.setCell g0 _, h.sv.wb, h.sv.st.low (by simp) (fun k hk _ => set_heap w db k j u (by omega))⟩, h.lo, h.n0, by simpa using h.nN, (World.cell?_of_block (a := ⟨mb, 0, none⟩) e).trans h.m0, (World.cell?_of_block (a := ⟨mb, 1, none⟩) e).trans h.m1, by simpa using h.ml, h.mn, h.mo, h.ca.same (by simp) (fun k hk _ => set_heap w db k j u (by omega)), h.ok⟩
  · exact h.put db j g0 (fun e => g1.1 e.symm) g2 g1.2 g3 u
theorem ApD.next {w0 : World} {a : Shp} {N mb cb : Nat} {v v' : Value} {E E' : List EW} {db : Nat} (ha : ApD w0 a N mb cb v E db) (hl : db < w.heap.size) (hv : v'.ownBlock = v.ownBlock ∨ ∃ g, w.heap.size ≤ g ∧ v'.ownBlock = some g) (hn : ∀ x, x < w.heap.size → NoNode E x → NoNode E' x) : ApD w0 a N mb cb v' E' db := by
  rcases ha with h | ⟨g0, g1, g2, g3⟩
  · exact .inl h
  · exact .inr ⟨g0, g1.next hl hv, g2, hn db hl g3⟩
theorem ApD.lo {w0 : World} {a : Shp} {N mb cb : Nat} {v : Value} {E : List EW} {db : Nat} (ha : ApD w0 a N mb cb v E db) (hn : w0.heap.size ≤ N) : w0.heap.size ≤ db := by
  rcases ha with h | h
  · exact h.1
  · exact Nat.le_trans hn h.1
end
/-- A memory, a domain beside it. -/
structure CpAt (w0 w : World) (mb S : Nat) (a b : Shp) (N cb : Nat) (th : Nat → Bool) (vr_ : Nat → Int) (W : Nat → Nat → Value) (th2 : Nat → Bool) (vr2 : Nat → Int) (W2 : Nat → Nat → Int) (hits : Int) (v : Value) (E : List EW) (db : Nat) (f : Nat → Value) : Prop where
  m : MemAt w0 w mb S a b N cb 4 th vr_ W th2 vr2 W2 hits v E
  el : (E.length : Int) ≤ 4
  h0 : 0 ≤ hits
  d : DomAt w db f
  ap : ApD w0 a N mb cb v E db
theorem CpAt.below {w0 : World} {mb S : Nat} {a b : Shp} {N cb : Nat} {th : Nat → Bool} {vr_ : Nat → Int} {W : Nat → Nat → Value} {th2 : Nat → Bool} {vr2 : Nat → Int} {W2 : Nat → Nat → Int} {hits : Int} {v : Value} {E : List EW} {db : Nat} {f : Nat → Value} {w w' : World} (h : (CpAt w0 w mb S a b N cb th vr_ W th2 vr2 W2 hits v E db f)) (hb : Below w.heap.size w w') : (CpAt w0 w' mb S a b N cb th vr_ W th2 vr2 W2 hits v E db f) := ⟨h.m.below hb, h.el, h.h0, h.d.below hb, h.ap⟩
theorem CpAt.set {w0 : World} {mb S : Nat} {a b : Shp} {N cb : Nat} {th : Nat → Bool} {vr_ : Nat → Int} {W : Nat → Nat → Value} {th2 : Nat → Bool} {vr2 : Nat → Int} {W2 : Nat → Nat → Int} {hits : Int} {v : Value} {E : List EW} {db : Nat} {f : Nat → Value} {w : World} (h : (CpAt w0 w mb S a b N cb th vr_ W th2 vr2 W2 hits v E db f)) (q : Nat) (u : Value) (hq : q < 107) : CpAt w0 (w.setCell ⟨db, q, none⟩ u) mb S a b N cb th vr_ W th2 vr2 W2 hits v E db (updD f q u) := ⟨h.m.putD h.ap q u, h.el, h.h0, h.d.set q u hq, h.ap⟩
theorem CpAt.bel {w0 : World} {mb S : Nat} {a b : Shp} {N cb : Nat} {th : Nat → Bool} {vr_ : Nat → Int} {W : Nat → Nat → Value} {th2 : Nat → Bool} {vr2 : Nat → Int} {W2 : Nat → Nat → Int} {hits : Int} {v : Value} {E : List EW} {db : Nat} {f : Nat → Value} {w : World} (h : (CpAt w0 w mb S a b N cb th vr_ W th2 vr2 W2 hits v E db f)) : Below w0.heap.size w0 w := h.m.sv.bel
theorem heap_setCells (x k : Nat) (hk : k ≠ x) : ∀ (cs : List Value) (o : Nat) (w : World), (w.setCells x o cs).heap[k]? = w.heap[k]? := by
  intro cs
  induction cs with
  | nil => intro o w; rfl
  | cons u r ih => intro o w; exact (ih (o + 1) _).trans (set_heap w x k o u hk)
theorem size_setCells (x : Nat) : ∀ (cs : List Value) (o : Nat) (w : World), (w.setCells x o cs).heap.size = w.heap.size := by
  intro cs
  induction cs with
  | nil => intro o w; rfl
  | cons u r ih => intro o w; exact (ih (o + 1) _).trans (by simp)
theorem MemAt.puts {w0 : World} {mb S : Nat} {a b : Shp} {N cb : Nat} {size : Int} {th : Nat → Bool} {vr_ : Nat → Int} {W : Nat → Nat → Value} {th2 : Nat → Bool} {vr2 : Nat → Int} {W2 : Nat → Nat → Int} {hits : Int} {v : Value} {E : List EW} (x : Nat) (hx : N ≤ x) (h1 : cb ≠ x) (h2 : mb ≠ x) (h3 : v.ownBlock ≠ some x) (h4 : NoNode E x) : ∀ (cs : List Value) (o : Nat) (w : World), (MemAt w0 w mb S a b N cb size th vr_ W th2 vr2 W2 hits v E) → MemAt w0 (w.setCells x o cs) mb S a b N cb size th vr_ W th2 vr2 W2 hits v E := by
  intro cs
  induction cs with
  | nil => intro o w h; exact h
  | cons u r ih => intro o w h; exact ih (o + 1) _ (h.put x o hx h1 h2 h3 h4 u)
/-- A block of one's own was written. -/
theorem CpAt.puts {w0 : World} {mb S : Nat} {a b : Shp} {N cb : Nat} {th : Nat → Bool} {vr_ : Nat → Int} {W : Nat → Nat → Value} {th2 : Nat → Bool} {vr2 : Nat → Int} {W2 : Nat → Nat → Int} {hits : Int} {v : Value} {E : List EW} {db : Nat} {f : Nat → Value} {w : World} (h : (CpAt w0 w mb S a b N cb th vr_ W th2 vr2 W2 hits v E db f)) (x : Nat) (hx : N ≤ x) (h1 : cb ≠ x) (h2 : mb ≠ x) (h3 : v.ownBlock ≠ some x) (h4 : NoNode E x) (h5 : db ≠ x) (cs : List Value) (o : Nat) : (CpAt w0 (w.setCells x o cs) mb S a b N cb th vr_ W th2 vr2 W2 hits v E db f) :=
  ⟨MemAt.puts x hx h1 h2 h3 h4 cs o w h.m, h.el, h.h0, h.d.same (Nat.le_of_eq (size_setCells x cs o w).symm) (heap_setCells x db h5 cs o w), h.ap⟩
/-- What is neither the memory's nor the domain's stays. -/
structure CK (w w' : World) (N cb : Nat) (v v' : Value) (E E' : List EW) (db : Nat) : Prop where
  size : w.heap.size ≤ w'.heap.size
  keep : ∀ k, N ≤ k → k < w.heap.size → k ≠ cb → v.ownBlock ≠ some k → k ≠ db → w'.heap[k]? = w.heap[k]?
  own : v'.ownBlock = v.ownBlock ∨ ∃ g, w.heap.size ≤ g ∧ v'.ownBlock = some g
  nn : ∀ x, x < w.heap.size → NoNode E x → NoNode E' x
theorem CK.refl (w : World) (N cb : Nat) (v : Value) (E : List EW) (db : Nat) : CK w w N cb v v E E db := ⟨Nat.le_refl _, fun _ _ _ _ _ _ => rfl, .inl rfl, fun _ _ h => h⟩
theorem CK.far {w w1 : World} {N cb db : Nat} {v v1 : Value} {E E1 : List EW} (h : CK w w1 N cb v v1 E E1 db) {k : Nat} (hk : k < w.heap.size) (hv : v.ownBlock ≠ some k) : v1.ownBlock ≠ some k := fun e => by
  rcases h.own with e' | ⟨g, hg, e'⟩
  · exact hv (by rw [← e', e])
  · rw [e'] at e; injection e with e; omega
theorem CK.trans {w w1 w2 : World} {N cb db : Nat} {v v1 v2 : Value} {E E1 E2 : List EW} (h : CK w w1 N cb v v1 E E1 db) (h2 : CK w1 w2 N cb v1 v2 E1 E2 db) : CK w w2 N cb v v2 E E2 db := by
  refine ⟨Nat.le_trans h.size h2.size, fun k hN hk hc hv hd => (h2.keep k hN (Nat.lt_of_lt_of_le hk h.size) hc (h.far hk hv) hd).trans (h.keep k hN hk hc hv hd), ?_, fun x hx hn => h2.nn x (Nat.lt_of_lt_of_le hx h.size) (h.nn x hx hn)⟩
  rcases h2.own with e | ⟨g, hg, e⟩
  · rcases h.own with e' | ⟨g, hg, e'⟩
    · exact .inl (e.trans e')
    · exact .inr ⟨g, hg, e.trans e'⟩
  · exact .inr ⟨g, Nat.le_trans h.size hg, e⟩
theorem CK.below {w w1 w2 : World} {N cb db : Nat} {v v1 : Value} {E E1 : List EW} (h : CK w w1 N cb v v1 E E1 db) (hb : Below w1.heap.size w1 w2) : CK w w2 N cb v v1 E E1 db :=
  ⟨Nat.le_trans h.size hb.size, fun k hN hk hc hv hd => (hb.block k (Nat.lt_of_lt_of_le hk h.size)).trans (h.keep k hN hk hc hv hd), h.own, h.nn⟩
theorem CK.from {w w1 w2 : World} {N cb db : Nat} {v v1 : Value} {E E1 : List EW} (hb : Below w.heap.size w w1) (h : CK w1 w2 N cb v v1 E E1 db) : CK w w2 N cb v v1 E E1 db :=
  (((CK.refl w N cb v E db).below hb).trans h)
theorem CK.set {w w1 : World} {N cb db : Nat} {v v1 : Value} {E E1 : List EW} (h : CK w w1 N cb v v1 E E1 db) (q : Nat) (u : Value) : CK w (w1.setCell ⟨db, q, none⟩ u) N cb v v1 E E1 db :=
  ⟨by simpa using h.size, fun k hN hk hc hv hd => (set_heap w1 db k q u hd).trans (h.keep k hN hk hc hv hd), h.own, h.nn⟩
/-- A memory, the domain beside it, and what stays. -/
def CQ (w0 w : World) (mb S : Nat) (a b : Shp) (N cb : Nat) (th : Nat → Bool) (vr_ : Nat → Int) (W : Nat → Nat → Value) (th2 : Nat → Bool) (vr2 : Nat → Int) (W2 : Nat → Nat → Int) (lo hi : Int) (v : Value) (E : List EW) (db : Nat) (f : Nat → Value) (w' : World) : Prop :=
  ∃ hits' v' E', CpAt w0 w' mb S a b N cb th vr_ W th2 vr2 W2 hits' v' E' db f ∧ lo ≤ hits' ∧ hits' ≤ hi ∧ CK w w' N cb v v' E E' db
theorem CpAt.cq {w0 : World} {mb S : Nat} {a b : Shp} {N cb : Nat} {th : Nat → Bool} {vr_ : Nat → Int} {W : Nat → Nat → Value} {th2 : Nat → Bool} {vr2 : Nat → Int} {W2 : Nat → Nat → Int} {hits : Int} {v : Value} {E : List EW} {db : Nat} {f : Nat → Value} {w : World} (h : (CpAt w0 w mb S a b N cb th vr_ W th2 vr2 W2 hits v E db f)) : CQ w0 w mb S a b N cb th vr_ W th2 vr2 W2 hits hits v E db f w := ⟨hits, v, E, h, Int.le_refl _, Int.le_refl _, CK.refl _ _ _ _ _ _⟩
theorem CQ.below {w0 w : World} {mb S : Nat} {a b : Shp} {N cb : Nat} {th : Nat → Bool} {vr_ : Nat → Int} {W : Nat → Nat → Value} {th2 : Nat → Bool} {vr2 : Nat → Int} {W2 : Nat → Nat → Int} {lo hi : Int} {v : Value} {E : List EW} {db : Nat} {f : Nat → Value} {w1 w2 : World} (h : CQ w0 w mb S a b N cb th vr_ W th2 vr2 W2 lo hi v E db f w1) (hb : Below w1.heap.size w1 w2) : CQ w0 w mb S a b N cb th vr_ W th2 vr2 W2 lo hi v E db f w2 := by
  obtain ⟨hits, v', E', h1, h2, h3, h4⟩ := h
  exact ⟨hits, v', E', h1.below hb, h2, h3, h4.below hb⟩
theorem CQ.bel0 {w0 w : World} {mb S : Nat} {a b : Shp} {N cb : Nat} {th : Nat → Bool} {vr_ : Nat → Int} {W : Nat → Nat → Value} {th2 : Nat → Bool} {vr2 : Nat → Int} {W2 : Nat → Nat → Int} {lo hi : Int} {v : Value} {E : List EW} {db : Nat} {f : Nat → Value} {w1 : World} (h : CQ w0 w mb S a b N cb th vr_ W th2 vr2 W2 lo hi v E db f w1) : Below w0.heap.size w0 w1 := by
  obtain ⟨hits, v', E', h1, h2, h3, h4⟩ := h
  exact h1.bel
theorem CQ.more {w0 w : World} {mb S : Nat} {a b : Shp} {N cb : Nat} {th : Nat → Bool} {vr_ : Nat → Int} {W : Nat → Nat → Value} {th2 : Nat → Bool} {vr2 : Nat → Int} {W2 : Nat → Nat → Int} {lo hi : Int} {v : Value} {E : List EW} {db : Nat} {f : Nat → Value} {w1 : World} (h : CQ w0 w mb S a b N cb th vr_ W th2 vr2 W2 lo hi v E db f w1) {hi' : Int} (hh : hi ≤ hi') : CQ w0 w mb S a b N cb th vr_ W th2 vr2 W2 lo hi' v E db f w1 := by
  obtain ⟨hits, v', E', h1, h2, h3, h4⟩ := h
  exact ⟨hits, v', E', h1, h2, Int.le_trans h3 hh, h4⟩
theorem CQ.dom {w0 w : World} {mb S : Nat} {a b : Shp} {N cb : Nat} {th : Nat → Bool} {vr_ : Nat → Int} {W : Nat → Nat → Value} {th2 : Nat → Bool} {vr2 : Nat → Int} {W2 : Nat → Nat → Int} {lo hi : Int} {v : Value} {E : List EW} {db : Nat} {f : Nat → Value} {w1 : World} (h : CQ w0 w mb S a b N cb th vr_ W th2 vr2 W2 lo hi v E db f w1) : DomAt w1 db f := by
  obtain ⟨hits, v', E', h1, h2, h3, h4⟩ := h
  exact h1.d
theorem CQ.dlt {w0 w : World} {mb S : Nat} {a b : Shp} {N cb : Nat} {th : Nat → Bool} {vr_ : Nat → Int} {W : Nat → Nat → Value} {th2 : Nat → Bool} {vr2 : Nat → Int} {W2 : Nat → Nat → Int} {lo hi : Int} {v : Value} {E : List EW} {db : Nat} {f : Nat → Value} {w1 : World} (h : CQ w0 w mb S a b N cb th vr_ W th2 vr2 W2 lo hi v E db f w1) : db < w1.heap.size := h.dom.lt
theorem CQ.from {w0 w : World} {mb S : Nat} {a b : Shp} {N cb : Nat} {th : Nat → Bool} {vr_ : Nat → Int} {W : Nat → Nat → Value} {th2 : Nat → Bool} {vr2 : Nat → Int} {W2 : Nat → Nat → Int} {lo hi : Int} {v : Value} {E : List EW} {db : Nat} {f : Nat → Value} {wA w1 : World} (hb : Below w.heap.size w wA) (h : CQ w0 wA mb S a b N cb th vr_ W th2 vr2 W2 lo hi v E db f w1) : CQ w0 w mb S a b N cb th vr_ W th2 vr2 W2 lo hi v E db f w1 := by
  obtain ⟨hits, v', E', h1, h2, h3, h4⟩ := h
  exact ⟨hits, v', E', h1, h2, h3, CK.from hb h4⟩
theorem CQ.set {w0 w : World} {mb S : Nat} {a b : Shp} {N cb : Nat} {th : Nat → Bool} {vr_ : Nat → Int} {W : Nat → Nat → Value} {th2 : Nat → Bool} {vr2 : Nat → Int} {W2 : Nat → Nat → Int} {lo hi : Int} {v : Value} {E : List EW} {db : Nat} {f : Nat → Value} {w1 : World} (h : CQ w0 w mb S a b N cb th vr_ W th2 vr2 W2 lo hi v E db f w1) (q : Nat) (u : Value) (hq : q < 107) : CQ w0 w mb S a b N cb th vr_ W th2 vr2 W2 lo hi v E db (updD f q u) (w1.setCell ⟨db, q, none⟩ u) := by
  obtain ⟨hits, v', E', h1, h2, h3, h4⟩ := h
  exact ⟨hits, v', E', h1.set q u hq, h2, h3, h4.set q u⟩
/-- A block that came behind a memory and its domain. -/
structure Mine ( w wA : World) (x : Nat) : Prop where
  bel : Below w.heap.size w wA
  lo : w.heap.size ≤ x
  hi : x < wA.heap.size
theorem CQ.mine {w0 : World} {mb S : Nat} {a b : Shp} {N cb : Nat} {th : Nat → Bool} {vr_ : Nat → Int} {W : Nat → Nat → Value} {th2 : Nat → Bool} {vr2 : Nat → Int} {W2 : Nat → Nat → Int} {hits : Int} {v : Value} {E : List EW} {db : Nat} {f : Nat → Value} {w wA w1 : World} {W2' : Nat → Nat → Int} {lo hi : Int} {f' : Nat → Value} (h : (CpAt w0 w mb S a b N cb th vr_ W th2 vr2 W2 hits v E db f)) {x : Nat} (hm : Mine w wA x) (hq : CQ w0 wA mb S a b N cb th vr_ W th2 vr2 W2' lo hi v E db f' w1) : w1.heap[x]? = wA.heap[x]? := by
  obtain ⟨hits', v', E', h1, h2, h3, h4⟩ := hq
  have hx := hm.lo
  exact h4.keep x (by have := h.m.nN; omega) hm.hi (by have := h.m.ca.cl; omega) (fun e => by have := (h.m.ca.row.lt _ e).2; omega) (by have := h.d.lt; omega)
theorem CQ.out {w0 : World} {mb S : Nat} {a b : Shp} {N cb : Nat} {th : Nat → Bool} {vr_ : Nat → Int} {W : Nat → Nat → Value} {th2 : Nat → Bool} {vr2 : Nat → Int} {W2 : Nat → Nat → Int} {hits : Int} {v : Value} {E : List EW} {db : Nat} {f : Nat → Value} {w wA w1 : World} {W2' : Nat → Nat → Int} {lo hi : Int} {f' : Nat → Value} (h : (CpAt w0 w mb S a b N cb th vr_ W th2 vr2 W2 hits v E db f)) {x : Nat} (hm : Mine w wA x) (hq : CQ w0 wA mb S a b N cb th vr_ W th2 vr2 W2' lo hi v E db f' w1) (cs : List Value) (o : Nat) : CQ w0 w mb S a b N cb th vr_ W th2 vr2 W2' lo hi v E db f' (w1.setCells x o cs) := by
  obtain ⟨hits', v', E', h1, h2, h3, h4⟩ := hq
  have hx := hm.lo
  have hv : v.ownBlock ≠ some x := fun e => by have := (h.m.ca.row.lt _ e).2; omega
  refine ⟨hits', v', E', h1.puts x (by have := h.m.nN; omega) (by have := h.m.ca.cl; omega) (by have := h.m.ml; omega) (h4.far hm.hi hv) (h4.nn x hm.hi (h.m.ca.noNode x hx)) (by have := h.d.lt; omega) cs o, h2, h3, ?_⟩
  have h5 := CK.from hm.bel h4
  exact ⟨by rw [size_setCells]; exact h5.size, fun k hN hk hc hv' hd => (heap_setCells x k (by omega) cs o w1).trans (h5.keep k hN hk hc hv' hd), h5.own, h5.nn⟩
theorem cload_ok {w0 : World} {mb S : Nat} {a b : Shp} {N cb : Nat} {th : Nat → Bool} {vr_ : Nat → Int} {W : Nat → Nat → Value} {th2 : Nat → Bool} {vr2 : Nat → Int} {W2 : Nat → Nat → Int} {hits : Int} {v : Value} {E : List EW} {db : Nat} {f : Nat → Value} (k0 k1 k2 k3 k4 : Int) (ad : Nat) (had : ad ≤ 4294967295) (ids : List Int) (pg at_ : Int) (r : Bool) (i x : Nat) (hpg : Hid (pg = i ∧ at_ = x)) (hi : i < b.n) (hx : x < 32) (hti : Hid (th2 i = true)) (z : Int) (hz : Hid (W2 i x = z)) (hh : Hid (hits ≤ 1000000)) (hw : Hid (Way a b th vr_ W th2 vr2 k0 k1 k2 k3 k4 5 ad false ids pg at_ r 0)) (w : World) (h : (CpAt w0 w mb S a b N cb th vr_ W th2 vr2 W2 hits v E db f)) :
    Calls Tryd.prog 39 #[.pointer (some ⟨mb, 0, none⟩), (Value.agg #[.int .i64 k0, .int .i64 k1, .int .i64 k2, .int .i64 k3, .int .u32 k4]), .int .u32 (ad : Int)] w fun e w' => e = .returned (.tuple #[.int .u32 z, .int .i64 0]) ∧ CQ w0 w mb S a b N cb th vr_ W th2 vr2 W2 hits (hits + 1) v E db f w' := by
  have hr : Hid ((E.length : Int) ≤ 4 ∧ (1 : Int) ≤ 4 ∧ (4 : Int) ≤ 64) := Lib.hid ⟨h.el, by decide, by decide⟩
  have hh' : Hid (0 ≤ hits ∧ hits ≤ 1000000) := Lib.hid ⟨h.h0, hh.out⟩
  rcases h.ap with ⟨g0, g1, g2⟩ | ⟨g0, g1, g2, g3⟩
  · have hM : db + 1 ≤ w.heap.size := h.d.lt
    refine (mloadn_ok k0 k1 k2 k3 k4 ad had ids pg at_ r i x hpg hi hx hti z hz hr hh' hw w (h.m.cut (db + 1) g1 g2)).mono ?_
    rintro e w' ⟨rfl, hits', v', E', hm, l1, l2, l3, hk, hv, hn⟩
    have e1 : w'.heap[db]? = w.heap[db]? := (hm.sv.bel.block db (by rw [cutW_size w _ hM]; omega)).trans (cutW_get w _ db hM (by omega))
    exact ⟨rfl, hits', v', E', ⟨hm.over (cutW_over (db + 1) hM (by omega) h.m.sv.bel), l1, Int.le_trans h.h0 l2, h.d.same hk.1 e1, .inl ⟨g0, g1, g2⟩⟩, l2, l3, hk.1, fun k a1 a2 a3 a4 _ => hk.2 k a1 a2 a3 a4, hv, hn⟩
  · refine (mloadn_ok k0 k1 k2 k3 k4 ad had ids pg at_ r i x hpg hi hx hti z hz hr hh' hw w h.m).mono ?_
    rintro e w' ⟨rfl, hits', v', E', hm, l1, l2, l3, hk, hv, hn⟩
    exact ⟨rfl, hits', v', E', ⟨hm, l1, Int.le_trans h.h0 l2, h.d.same hk.1 (hk.2 db g0 h.d.lt g1.1 g1.2), h.ap.next h.d.lt hv hn⟩, l2, l3, hk.1, fun k a1 a2 a3 a4 _ => hk.2 k a1 a2 a3 a4, hv, hn⟩
theorem cload_fault {w0 : World} {mb S : Nat} {a b : Shp} {N cb : Nat} {th : Nat → Bool} {vr_ : Nat → Int} {W : Nat → Nat → Value} {th2 : Nat → Bool} {vr2 : Nat → Int} {W2 : Nat → Nat → Int} {hits : Int} {v : Value} {E : List EW} {db : Nat} {f : Nat → Value} (k0 k1 k2 k3 k4 : Int) (ad : Nat) (had : ad ≤ 4294967295) (ids : List Int) (pg at_ : Int) (r : Bool) (ft : Int) (hf : (ft != 0) = true) (hh : Hid (hits ≤ 1000000)) (hw : Hid (Way a b th vr_ W th2 vr2 k0 k1 k2 k3 k4 5 ad false ids pg at_ r ft)) (w : World) (h : (CpAt w0 w mb S a b N cb th vr_ W th2 vr2 W2 hits v E db f)) :
    Calls Tryd.prog 39 #[.pointer (some ⟨mb, 0, none⟩), (Value.agg #[.int .i64 k0, .int .i64 k1, .int .i64 k2, .int .i64 k3, .int .u32 k4]), .int .u32 (ad : Int)] w fun e w' => e = .returned (.tuple #[.int .u32 0, .int .i64 ft]) ∧ CQ w0 w mb S a b N cb th vr_ W th2 vr2 W2 hits (hits + 1) v E db f w' := by
  have hr : Hid ((E.length : Int) ≤ 4 ∧ (1 : Int) ≤ 4 ∧ (4 : Int) ≤ 64) := Lib.hid ⟨h.el, by decide, by decide⟩
  have hh' : Hid (0 ≤ hits ∧ hits ≤ 1000000) := Lib.hid ⟨h.h0, hh.out⟩
  rcases h.ap with ⟨g0, g1, g2⟩ | ⟨g0, g1, g2, g3⟩
  · have hM : db + 1 ≤ w.heap.size := h.d.lt
    refine (mloadn_fault k0 k1 k2 k3 k4 ad had ids pg at_ r ft hf hr hh' hw w (h.m.cut (db + 1) g1 g2)).mono ?_
    rintro e w' ⟨rfl, hits', v', E', hm, l1, l2, l3, hk, hv, hn⟩
    have e1 : w'.heap[db]? = w.heap[db]? := (hm.sv.bel.block db (by rw [cutW_size w _ hM]; omega)).trans (cutW_get w _ db hM (by omega))
    exact ⟨rfl, hits', v', E', ⟨hm.over (cutW_over (db + 1) hM (by omega) h.m.sv.bel), l1, Int.le_trans h.h0 l2, h.d.same hk.1 e1, .inl ⟨g0, g1, g2⟩⟩, l2, l3, hk.1, fun k a1 a2 a3 a4 _ => hk.2 k a1 a2 a3 a4, hv, hn⟩
  · refine (mloadn_fault k0 k1 k2 k3 k4 ad had ids pg at_ r ft hf hr hh' hw w h.m).mono ?_
    rintro e w' ⟨rfl, hits', v', E', hm, l1, l2, l3, hk, hv, hn⟩
    exact ⟨rfl, hits', v', E', ⟨hm, l1, Int.le_trans h.h0 l2, h.d.same hk.1 (hk.2 db g0 h.d.lt g1.1 g1.2), h.ap.next h.d.lt hv hn⟩, l2, l3, hk.1, fun k a1 a2 a3 a4 _ => hk.2 k a1 a2 a3 a4, hv, hn⟩
end Go.Proofs.YtjkbfhojjjkgnaaDoor
namespace Go.Proofs.YtjkbfhojjjkgnaaDoor
open Go.ChangeShapes Go.WideShapes Go.ChangeAt Go.RowKit
set_option linter.unusedVariables false
set_option linter.unusedSimpArgs false
/-- A memory that remembers nothing: what is not its own was written. -/
theorem MemAt.apart {w0 w w' : World} {mb S : Nat} {a b : Shp} {N cb : Nat} {size : Int} {th : Nat → Bool} {vr_ : Nat → Int} {W : Nat → Nat → Value} {th2 : Nat → Bool} {vr2 : Nat → Int} {W2 : Nat → Nat → Int} {hits : Int} (h : MemAt w0 w mb S a b N cb size th vr_ W th2 vr2 W2 hits (.slice none 0 0) []) (ho : w'.os = w.os ∧ w'.tape = w.tape ∧ w'.output = w.output) (hs : w.heap.size ≤ w'.heap.size) (hk : ∀ k, k < w.heap.size → (k < N ∨ k = mb ∨ k = cb) → w'.heap[k]? = w.heap[k]?) : MemAt w0 w' mb S a b N cb size th vr_ W th2 vr2 W2 hits (.slice none 0 0) [] := by
  have hN := h.nN
  have e := hk mb h.ml (.inr (.inl rfl))
  have ec := hk cb h.ca.cl (.inr (.inr rfl))
  refine ⟨⟨⟨ho.1.trans h.sv.bel.os, ho.2.1.trans h.sv.bel.tape, ho.2.2.trans h.sv.bel.output, Nat.le_trans h.sv.bel.size hs, fun k hk0 => (hk k (by have := h.sv.bel.size; omega) (.inl (by have := h.n0; omega))).trans (h.sv.bel.block k hk0)⟩, h.sv.wb, h.sv.st.under h.lo hs (fun k hkN => hk k (by omega) (.inl hkN))⟩, h.lo, h.n0, Nat.le_trans hN hs, (World.cell?_of_block (a := ⟨mb, 0, none⟩) e).trans h.m0, (World.cell?_of_block (a := ⟨mb, 1, none⟩) e).trans h.m1, Nat.lt_of_lt_of_le h.ml hs, h.mn, h.mo, ?_, h.ok⟩
  exact ⟨h.ca.nb, Nat.lt_of_lt_of_le h.ca.cl hs, (World.cell?_of_block (a := ⟨cb, 0, none⟩) ec).trans h.ca.c0, (World.cell?_of_block (a := ⟨cb, 1, none⟩) ec).trans h.ca.c1, (World.cell?_of_block (a := ⟨cb, 2, none⟩) ec).trans h.ca.c2, fun j => (World.frozen?_of_block (a := ⟨cb, j, none⟩) ec).trans (h.ca.fr j), row_same' h.ca.row (fun g hg => by simp [Value.ownBlock] at hg), h.ca.ne, fun e he => by cases he⟩
/-- A system: what lies ahead of it was written. -/
theorem SyAt.kept {w w' : World} {base : Nat} {S : SyS} {d : SyD} (h : SyAt w base S d) (hs : w.heap.size ≤ w'.heap.size) (hk : ∀ k, base ≤ k → k < w.heap.size → w'.heap[k]? = w.heap[k]?) : SyAt w' base S d := by
  have e := hk S.x h.xb h.xl
  have r : ∀ {T : TypeId} {s n c g : Nat} {xs : List Value}, w.ownsRow base T s (.slice (some ⟨g, 0, none⟩) n c) n xs → w'.ownsRow base T s (.slice (some ⟨g, 0, none⟩) n c) n xs := fun hr => row_same' hr (fun g hg => hk g (hr.lt g hg).1 (hr.lt g hg).2)
  exact ⟨h.xb, Nat.lt_of_lt_of_le h.xl hs, (World.cell?_of_block (a := ⟨S.x, 0, none⟩) e).trans h.f0, (World.cell?_of_block (a := ⟨S.x, 1, none⟩) e).trans h.f1, (World.cell?_of_block (a := ⟨S.x, 6, none⟩) e).trans h.f6, (World.cell?_of_block (a := ⟨S.x, 7, none⟩) e).trans h.f7, r h.ns, r h.ps, r h.nd, r h.pg, h.ne⟩
/-- Two pages' keys. -/
def kkP (i q : Nat) : Int := if q = 0 then 3 else if q = 1 then (i : Int) else 0
theorem kkP_right (i : Nat) (hi : i < 2) : KRight kkP i := by
  have h2 : i = 0 ∨ i = 1 := by omega
  unfold KRight
  rcases h2 with rfl | rfl <;> decide
theorem srcP2 (w : World) (T : TypeId) (B G : Nat) (hB : B < w.heap.size) (hG : G < w.heap.size) : SrcK (w.alloc (.cells #[.int .i64 3, .int .i64 0, .int .i64 0, .int .i64 0, .int .u32 0, .int .i64 3, .int .i64 1, .int .i64 0, .int .i64 0, .int .u32 0] T (0, 0))) (some ⟨w.heap.size, 0, none⟩) 2 kkP B G := ⟨fun i hi => by
  refine ⟨_, rfl, by simp, by simp; omega, by simp; omega, fun q hq => ?_⟩
  rw [show Addr.add ⟨w.heap.size, 0, none⟩ (i * 5 + q) = ⟨w.heap.size, i * 5 + q, none⟩ by (unfold Addr.add; split <;> simp_all)]
  have hi' : i = 0 ∨ i = 1 := by omega
  rcases hi' with rfl | rfl <;> rcases five q hq with rfl | rfl | rfl | rfl | rfl <;> simp [kval, kkP]⟩
theorem kk2_new (w : World) (T : TypeId) : KK2 (w.alloc (.cells #[.int .i64 3, .int .i64 0, .int .i64 0, .int .i64 0, .int .u32 0, .int .i64 3, .int .i64 1, .int .i64 0, .int .i64 0, .int .u32 0] T (0, 0))) w.heap.size :=
  ⟨⟨by simp, by simp, by simp, by simp, by simp⟩, ⟨by simp, by simp, by simp, by simp, by simp⟩⟩
theorem syskey_id {base : Nat} {S : SyS} {d : SyD} (id : Int) (k : Nat) (hid : Hid (id = k)) (hk : k < S.m) (ht : Hid (d.lP k = true)) (v : Int) (hv : Hid (d.vP k = v)) (w : World) (h : SyAt w base S d) :
    Calls Tryd.prog 37 #[.pointer (some ⟨S.x, 0, none⟩), .int .i64 3, .int .i64 id] w fun e w' => e = .returned (.agg #[.int .i64 3, .int .i64 id, .int .i64 v, .int .i64 0, .int .u32 0]) ∧ Below w.heap.size w w' := by
  have e := hid.out
  subst e
  exact syskey_page k hk ht v hv w h
/-- What made leaves: two pages, the first with these words; a node of their keys. -/
structure M17 (a b : Shp) (W : Nat → Nat → Value) (W2 : Nat → Nat → Int) (zs : List Int) : Prop where
  an : a.n = 2
  bn : b.n = 4
  k0 : KAt (W 0) 0 3 0 0 0 0
  k1 : KAt (W 0) 1 3 1 0 0 0
  kv : ∀ j, 2 ≤ j → j < 16 → KAt (W 0) j 0 0 0 0 0
  p0 : ∀ j, j < 32 → W2 0 j = zs.getD j 0
  p1 : ∀ j, j < 32 → W2 1 j = 0
theorem rep32 (j : Nat) : (List.replicate 32 (0 : Int)).getD j 0 = 0 := by
  rw [List.getD_eq_getElem?_getD, List.getElem?_replicate]
  split <;> rfl
theorem m17_of (a b : Shp) (zs : List Int) (ha : a.n = 2) (hb : b.n = 4) (hz : zs.length ≤ 32) : M17 a b (freshV (fun _ b => zc b) 0 (kcs kkP 2)) (fresh (fresh (fun _ _ => 0) 0 zs) 1 []) zs := by
  refine ⟨ha, hb, ?_, ?_, fun j h1 h2 => freshV_nokey _ 0 kkP 2 j h1 h2, fun j hj => ?_, fun j hj => ?_⟩
  · exact freshV_key _ 0 kkP 2 0 (by decide)
  · exact freshV_key _ 0 kkP 2 1 (by decide)
  · unfold fresh updW
    rw [if_neg (by omega), if_neg (by omega)]
    by_cases h : j < zs.length
    · rw [if_pos ⟨rfl, h⟩]
    · rw [if_neg (fun e => h e.2), if_pos ⟨rfl, by simpa using hj⟩, rep32]
      simp [List.getD, h]
  · unfold fresh updW
    rw [if_neg (by simp), if_pos ⟨rfl, by simpa using hj⟩, rep32]
theorem RU.src {w w' : World} {a : Option Addr} {xs : List Int} {B G : Nat} (h : RU w a xs) (hk : ∀ k, k < w.heap.size → w'.heap[k]? = w.heap[k]?) (hs : w.heap.size ≤ w'.heap.size) (hB : w.heap.size ≤ B) (hG : w.heap.size ≤ G) : SrcU w' a xs B G := ⟨fun j hj => by
  obtain ⟨ad, h1, h2, h3⟩ := h j hj
  refine ⟨ad, h1, Nat.lt_of_lt_of_le h2 hs, by omega, by omega, (World.cell?_of_block (a := ad.add j) ?_).trans h3⟩
  rw [add_block']
  exact hk _ h2⟩
theorem up01 : upd (fun _ => false) 0 true 1 = false := rfl
theorem up0n : ∀ i, i < 1 → (!upd (fun _ => false) 0 true i && !false) = false := fun i hi => by
  have h0 : i = 0 := by omega
  subst h0
  rfl
theorem up10 : upd (upd (fun _ => false) 0 true) 1 true 0 = true := rfl
theorem up11 : upd (upd (fun _ => false) 0 true) 1 true 1 = true := rfl
set_option maxRecDepth 100000 in
set_option maxHeartbeats 8000000 in
theorem made17_is (al : Option Addr) (k c : Nat) (zs : List Int) (hk : k ≤ 32) (HZ : Hid (zs.length = k)) (vs vr : Value) (w : World) (hE : ErrsAt vs vr w) (hs : RU w al zs) :
    Calls Tryd.prog 20 #[.slice al k c] w fun e w' => ∃ mb S a b N cb x W W2, e = .returned (.tuple #[.pointer (some ⟨mb, 0, none⟩), .pointer (some ⟨x, 0, none⟩), .agg #[.int .i64 2, .int .i64 0, .int .i64 0, .int .i64 0, .int .u32 1]]) ∧ MemAt w w' mb S a b N cb 4 (upd (fun _ => false) 0 true) (fun _ => 0) W (upd (upd (fun _ => false) 0 true) 1 true) (fun _ => 0) W2 0 (.slice none 0 0) [] ∧ Hid (M17 a b W W2 zs) := by
  have HE := Lib.hid hE
  have HU := Lib.hid hs
  have dm : decide ((32 : Int) < (k : Int)) = false := decide_eq_false (by omega)
  have hzl : zs.length ≤ 32 := by rw [HZ.out]; exact hk
  clear hE hs
  go_enter Tryd.func20, Tryd.ntmps20
  go_upto_region 1 with fail
  generalize hA : World.alloc w _ = wA
  have HB : Hid (Below w.heap.size w wA ∧ wA.heap.size = w.heap.size + 1) := Lib.hid (by rw [← hA]; exact ⟨(Below.refl _ _).alloc (Nat.le_refl _) _, by simp⟩)
  have HK0 : Hid (KeyC wA w.heap.size 0 0 0 0 0) := Lib.hid (by rw [← hA]; exact KeyC.new _ _ _ _ _ _ _)
  clear hA
  go_upto_region 6 with (first
    | (go_at_call 30; (with_reducible refine (mnew_ok 2 4 4 2 4 (Lib.hid rfl) (Lib.hid rfl) (by decide) (by decide) (by decide) (by decide) (by decide) (by decide) _).mono ?_); rintro e w1 ⟨mb, S, a, b, N, cb, rfl, hm, hn⟩; have HN := Lib.hid hn.out; have H1 := Lib.hid hm; clear hm hn)
    | (go_at_call 31; (with_reducible refine (small_is 2 4 2 4 (Lib.hid ⟨rfl, rfl⟩) (by decide) (by decide) (by decide) (by decide) _).mono ?_); rintro e w2 ⟨Y, rfl, hs, hn, hb⟩; have HY2 := Lib.hid hs; have HYn := Lib.hid hn.out; have HO : Hid (N ≤ w1.heap.size ∧ mb < w1.heap.size ∧ cb < w1.heap.size) := Lib.hid ⟨H1.out.nN, H1.out.ml, H1.out.ca.cl⟩; have H2 := Lib.hid (H1.out.below hb); have m0 := H2.out.m0; have s1 := H2.out.sv.st.s1; have HS2 : Hid (SrcU w2 al zs b.B b.G) := Lib.hid (HU.out.src (fun q hq => (H2.out.sv.bel.block q (by have := HB.out.2; omega)).trans (HB.out.1.block q hq)) (by have h1 := H2.out.sv.bel.size; have := HB.out.2; omega) (by have h1 := H2.out.sv.wb; have h2 := H2.out.sv.st.ab; have h3 := H2.out.sv.st.pg.ar.lt.1; have := HB.out.2; omega) (by have h1 := H2.out.sv.wb; have h2 := H2.out.sv.st.ab; have h3 := (H2.out.sv.st.pg.row.lt b.G rfl).1; have := HB.out.2; omega)); clear hs hb hn)
    | (go_at_call 32; (with_reducible refine (pmake_at 0 al k c zs HZ hk 0 (Lib.hid rfl) (by have := HN.out; omega) (Lib.hid (by decide)) (Lib.hid (by intro i hi; omega)) 0 (Lib.hid rfl) _ H2.out.sv.st.pg HS2.out).mono ?_); rintro e w3 ⟨rfl, hP, hb⟩; have H3 := Lib.hid (H2.out.page hP hb ways_nil); have HLP := Lib.hid H2.out.lo.p; have HY3 := Lib.hid (HY2.out.kept hb.2.2.2.1 (fun q hq1 hq2 => hb.2.2.2.2 q hq2 (by have := HLP.out; have := HO.out; omega) (by have := HLP.out; have := HO.out; omega))); clear hP hb m0 s1))
  have m0 := H3.out.m0
  have s1 := H3.out.sv.st.s1
  go_upto_region 7 with (first
    | (go_at_call 32; (with_reducible refine (pmake_at 1 none 0 0 [] (Lib.hid rfl) (by decide) 1 (Lib.hid rfl) (by have := HN.out; omega) (Lib.hid (by decide)) (Lib.hid (by intro i hi; have : i = 0 := (by omega); subst this; decide)) 0 (Lib.hid rfl) _ H3.out.sv.st.pg ⟨fun j hj => by simp at hj⟩).mono ?_); rintro e w4 ⟨rfl, hP, hb⟩; have H4 := Lib.hid (H3.out.page hP hb ways_nil); have HY4 := Lib.hid (HY3.out.kept hb.2.2.2.1 (fun q hq1 hq2 => hb.2.2.2.2 q hq2 (by have := HLP.out; have := HO.out; omega) (by have := HLP.out; have := HO.out; omega))); clear hP hb m0 s1))
  obtain ⟨W2, hW2⟩ : ∃ W2, W2 = fresh (fresh (fun _ _ => 0) 0 zs) 1 [] := ⟨_, rfl⟩
  rw [← hW2] at H4
  have HLN := Lib.hid H4.out.lo.n
  have HSS : Hid (∀ w', Below w4.heap.size w4 w' → (World.cell? w' ⟨mb, 0, none⟩ = some (.pointer (some ⟨S, 0, none⟩)) ∧ World.cell? w' ⟨S, 0, none⟩ = some (.pointer (some ⟨a.P, 0, none⟩)))) := Lib.hid (fun w' hb => ⟨(H4.out.below hb).m0, (H4.out.below hb).sv.st.s0⟩)
  refine wp_region_noPanic ?_
  refine wp_region_held_drew (S := fun w' => World.cell? w' ⟨mb, 0, none⟩ = some (.pointer (some ⟨S, 0, none⟩)) ∧ World.cell? w' ⟨S, 0, none⟩ = some (.pointer (some ⟨a.P, 0, none⟩))) (by kernel_rfl) (HSS.out _ (Below.refl w4.heap.size w4).drew) (fun hHeld => ?_)
  have HD4 : Hid (Below w4.heap.size w4 w4.drew) := Lib.hid (Below.refl w4.heap.size w4).drew
  refine wpAnyH_take (i := 0) (v := ?_) (by rfl) (by kernel_rfl) (by kernel_rfl) (by kernel_rfl) (fun _ _ _ h => h) (Or.inl ⟨by kernel_rfl, ?_⟩) (by assumption) ?_; rotate_left 1; (focus (intro w hSw; (try dsimp only at hSw); simp only [List.getElem_toArray, List.getElem_cons_succ, List.getElem_cons_zero]; all_goals go_simp; all_goals (try with_reducible rfl))); (try simp only [Act.put, List.getElem_toArray, List.getElem_cons_succ, List.getElem_cons_zero, List.setIfInBounds_toArray, List.set_cons_zero, List.set_cons_succ])
  refine wpAnyH_take (i := 1) (v := ?_) (by rfl) (by kernel_rfl) (by kernel_rfl) (by kernel_rfl) (fun _ _ _ h => h) (Or.inl ⟨by kernel_rfl, ?_⟩) (by assumption) ?_; rotate_left 1; (focus (intro w hSw; (try dsimp only at hSw); simp only [List.getElem_toArray, List.getElem_cons_succ, List.getElem_cons_zero]; all_goals go_simp; all_goals (try with_reducible rfl))); (try simp only [Act.put, List.getElem_toArray, List.getElem_cons_succ, List.getElem_cons_zero, List.setIfInBounds_toArray, List.set_cons_zero, List.set_cons_succ])
  refine wpAnyH_take (i := 2) (v := ?_) (by rfl) (by kernel_rfl) (by kernel_rfl) (by kernel_rfl) (fun _ _ _ h => h) (Or.inl ⟨by kernel_rfl, ?_⟩) (by assumption) ?_; rotate_left 1; (focus (intro w hSw; (try dsimp only at hSw); simp only [List.getElem_toArray, List.getElem_cons_succ, List.getElem_cons_zero]; all_goals go_simp; all_goals (try with_reducible rfl))); (try simp only [Act.put, List.getElem_toArray, List.getElem_cons_succ, List.getElem_cons_zero, List.setIfInBounds_toArray, List.set_cons_zero, List.set_cons_succ])
  refine wpAnyH_take (i := 3) (v := ?_) (by rfl) (by kernel_rfl) (by kernel_rfl) (by kernel_rfl) (fun _ _ _ h => h) (Or.inl ⟨by kernel_rfl, ?_⟩) (by assumption) ?_; rotate_left 1; (focus (intro w hSw; (try dsimp only at hSw); simp only [List.getElem_toArray, List.getElem_cons_succ, List.getElem_cons_zero]; all_goals go_simp; all_goals (try with_reducible rfl))); (try simp only [Act.put, List.getElem_toArray, List.getElem_cons_succ, List.getElem_cons_zero, List.setIfInBounds_toArray, List.set_cons_zero, List.set_cons_succ])
  refine wpAnyH_take (i := 4) (v := ?_) (by rfl) (by kernel_rfl) (by kernel_rfl) (by kernel_rfl) (fun _ _ _ h => h) (Or.inl ⟨by kernel_rfl, ?_⟩) (by assumption) ?_; rotate_left 1; (focus (intro w hSw; (try dsimp only at hSw); simp only [List.getElem_toArray, List.getElem_cons_succ, List.getElem_cons_zero]; all_goals go_simp; all_goals (try with_reducible rfl))); (try simp only [Act.put, List.getElem_toArray, List.getElem_cons_succ, List.getElem_cons_zero, List.setIfInBounds_toArray, List.set_cons_zero, List.set_cons_succ])
  refine wpAnyH_take (i := 5) (v := ?_) (by rfl) (by kernel_rfl) (by kernel_rfl) (by kernel_rfl) (fun _ _ _ h => h) (Or.inl ⟨by kernel_rfl, ?_⟩) (by assumption) ?_; rotate_left 1; (focus (intro w hSw; (try dsimp only at hSw); simp only [List.getElem_toArray, List.getElem_cons_succ, List.getElem_cons_zero]; all_goals go_simp; all_goals (try with_reducible rfl))); (try simp only [Act.put, List.getElem_toArray, List.getElem_cons_succ, List.getElem_cons_zero, List.setIfInBounds_toArray, List.set_cons_zero, List.set_cons_succ])
  refine wpAnyH_take (i := 6) (v := ?_) (by rfl) (by kernel_rfl) (by kernel_rfl) (by kernel_rfl) (fun _ _ _ h => h) (Or.inl ⟨by kernel_rfl, ?_⟩) (by assumption) ?_; rotate_left 1; (focus (intro w hSw; (try dsimp only at hSw); simp only [List.getElem_toArray, List.getElem_cons_succ, List.getElem_cons_zero]; all_goals go_simp; all_goals (try with_reducible rfl))); (try simp only [Act.put, List.getElem_toArray, List.getElem_cons_succ, List.getElem_cons_zero, List.setIfInBounds_toArray, List.set_cons_zero, List.set_cons_succ])
  refine wpAnyH_take (i := 7) (v := ?_) (by rfl) (by kernel_rfl) (by kernel_rfl) (by kernel_rfl) (fun _ _ _ h => h) (Or.inl ⟨by kernel_rfl, ?_⟩) (by assumption) ?_; rotate_left 1; (focus (intro w hSw; (try dsimp only at hSw); simp only [List.getElem_toArray, List.getElem_cons_succ, List.getElem_cons_zero]; all_goals go_simp; all_goals (try with_reducible rfl))); (try simp only [Act.put, List.getElem_toArray, List.getElem_cons_succ, List.getElem_cons_zero, List.setIfInBounds_toArray, List.set_cons_zero, List.set_cons_succ])
  refine wpAnyH_take (i := 8) (v := ?_) (by rfl) (by kernel_rfl) (by kernel_rfl) (by kernel_rfl) (fun _ _ _ h => h) (Or.inl ⟨by kernel_rfl, ?_⟩) (by assumption) ?_; rotate_left 1; (focus (intro w hSw; (try dsimp only at hSw); simp only [List.getElem_toArray, List.getElem_cons_succ, List.getElem_cons_zero]; all_goals go_simp; all_goals (try with_reducible rfl))); (try simp only [Act.put, List.getElem_toArray, List.getElem_cons_succ, List.getElem_cons_zero, List.setIfInBounds_toArray, List.set_cons_zero, List.set_cons_succ])
  refine wpAnyH_take (i := 9) (v := ?_) (by rfl) (by kernel_rfl) (by kernel_rfl) (by kernel_rfl) (fun _ _ _ h => h) (Or.inl ⟨by kernel_rfl, ?_⟩) (by assumption) ?_; rotate_left 1; (focus (intro w hSw; (try dsimp only at hSw); simp only [List.getElem_toArray, List.getElem_cons_succ, List.getElem_cons_zero]; all_goals go_simp; all_goals (try with_reducible rfl))); (try simp only [Act.put, List.getElem_toArray, List.getElem_cons_succ, List.getElem_cons_zero, List.setIfInBounds_toArray, List.set_cons_zero, List.set_cons_succ])
  refine wpAnyH_take (i := 10) (v := ?_) (by rfl) (by kernel_rfl) (by kernel_rfl) (by kernel_rfl) (fun _ _ _ h => h) (Or.inl ⟨by kernel_rfl, ?_⟩) (by assumption) ?_; rotate_left 1; (focus (intro w hSw; (try dsimp only at hSw); simp only [List.getElem_toArray, List.getElem_cons_succ, List.getElem_cons_zero]; all_goals go_simp; all_goals (try with_reducible rfl))); (try simp only [Act.put, List.getElem_toArray, List.getElem_cons_succ, List.getElem_cons_zero, List.setIfInBounds_toArray, List.set_cons_zero, List.set_cons_succ])
  refine wpAnyH_take (i := 12) (v := ?_) (by rfl) (by kernel_rfl) (by kernel_rfl) (by kernel_rfl) (fun _ _ _ h => h) (Or.inl ⟨by kernel_rfl, ?_⟩) (by assumption) ?_; rotate_left 1; (focus (intro w hSw; (try dsimp only at hSw); simp only [List.getElem_toArray, List.getElem_cons_succ, List.getElem_cons_zero]; all_goals go_simp; all_goals (try with_reducible rfl))); (try simp only [Act.put, List.getElem_toArray, List.getElem_cons_succ, List.getElem_cons_zero, List.setIfInBounds_toArray, List.set_cons_zero, List.set_cons_succ])
  refine wpAnyH_take (i := 13) (v := ?_) (by rfl) (by kernel_rfl) (by kernel_rfl) (by kernel_rfl) (fun _ _ _ h => h) (Or.inl ⟨by kernel_rfl, ?_⟩) (by assumption) ?_; rotate_left 1; (focus (intro w hSw; (try dsimp only at hSw); simp only [List.getElem_toArray, List.getElem_cons_succ, List.getElem_cons_zero]; all_goals go_simp; all_goals (try with_reducible rfl))); (try simp only [Act.put, List.getElem_toArray, List.getElem_cons_succ, List.getElem_cons_zero, List.setIfInBounds_toArray, List.set_cons_zero, List.set_cons_succ])
  refine wpAnyH_take (i := 14) (v := ?_) (by rfl) (by kernel_rfl) (by kernel_rfl) (by kernel_rfl) (fun _ _ _ h => h) (Or.inl ⟨by kernel_rfl, ?_⟩) (by assumption) ?_; rotate_left 1; (focus (intro w hSw; (try dsimp only at hSw); simp only [List.getElem_toArray, List.getElem_cons_succ, List.getElem_cons_zero]; all_goals go_simp; all_goals (try with_reducible rfl))); (try simp only [Act.put, List.getElem_toArray, List.getElem_cons_succ, List.getElem_cons_zero, List.setIfInBounds_toArray, List.set_cons_zero, List.set_cons_succ])
  refine wpAnyH_take (i := 15) (v := ?_) (by rfl) (by kernel_rfl) (by kernel_rfl) (by kernel_rfl) (fun _ _ _ h => h) (Or.inl ⟨by kernel_rfl, ?_⟩) (by assumption) ?_; rotate_left 1; (focus (intro w hSw; (try dsimp only at hSw); simp only [List.getElem_toArray, List.getElem_cons_succ, List.getElem_cons_zero]; all_goals go_simp; all_goals (try with_reducible rfl))); (try simp only [Act.put, List.getElem_toArray, List.getElem_cons_succ, List.getElem_cons_zero, List.setIfInBounds_toArray, List.set_cons_zero, List.set_cons_succ])
  refine wpAnyH_ready (rs := [11]) (by kernel_rfl) (by simp) ?_; refine AllReadyH.cons (by rfl) (fun K hK => ?_) AllReadyH.nil; rw [if_pos (by kernel_rfl)]; simp only [List.getElem_toArray, List.getElem_cons_succ, List.getElem_cons_zero]
  go_wp2_with (first
    | (go_at_call 34; (with_reducible refine (spagekey_in 0 0 (Lib.hid rfl) (by have := HN.out; omega) (Lib.hid rfl) 0 (Lib.hid rfl) _ (H4.out.below HD4.out).sv.st).mono ?_); rintro e w5 ⟨rfl, hb⟩; have B5 := Lib.hid (HD4.out.trans (hb.mono HD4.out.size)); clear hb))
  refine hK.out _ _ (HSS.out _ B5.out) (fun hHeld => ?_)
  clear hK K
  (try simp only [Act.put, List.getElem_toArray, List.getElem_cons_succ, List.getElem_cons_zero, List.setIfInBounds_toArray, List.set_cons_zero, List.set_cons_succ])
  refine wpAnyH_ready (rs := [16]) (by kernel_rfl) (by simp) ?_; refine AllReadyH.cons (by rfl) (fun K hK => ?_) AllReadyH.nil; rw [if_pos (by kernel_rfl)]; simp only [List.getElem_toArray, List.getElem_cons_succ, List.getElem_cons_zero]
  go_wp2_with (first
    | (go_at_call 34; (with_reducible refine (spagekey_in 1 1 (Lib.hid rfl) (by have := HN.out; omega) (Lib.hid rfl) 0 (Lib.hid rfl) _ (H4.out.below B5.out).sv.st).mono ?_); rintro e w6 ⟨rfl, hb⟩; have B6 := Lib.hid (B5.out.trans (hb.mono B5.out.size)); clear hb))
  refine hK.out _ _ (HSS.out _ B6.out) (fun hHeld => ?_)
  clear hK K
  (try simp only [Act.put, List.getElem_toArray, List.getElem_cons_succ, List.getElem_cons_zero, List.setIfInBounds_toArray, List.set_cons_zero, List.set_cons_succ])
  refine wpAnyH_ready (rs := [17]) (by kernel_rfl) (by simp) ?_; refine AllReadyH.cons (by rfl) (fun K hK => ?_) AllReadyH.nil; rw [if_pos (by kernel_rfl)]; simp only [List.getElem_toArray, List.getElem_cons_succ, List.getElem_cons_zero]
  go_wp2_with fail
  refine hK.out _ _ (HSS.out _ (B6.out.alloc B6.out.size _)) (fun hHeld => ?_)
  clear hK K
  (try simp only [Act.put, List.getElem_toArray, List.getElem_cons_succ, List.getElem_cons_zero, List.setIfInBounds_toArray, List.set_cons_zero, List.set_cons_succ])
  refine wpAnyH_ready (rs := [18]) (by kernel_rfl) (by simp) ?_; refine AllReadyH.cons (by rfl) (fun K hK => ?_) AllReadyH.nil; rw [if_pos (by kernel_rfl)]; simp only [List.getElem_toArray, List.getElem_cons_succ, List.getElem_cons_zero]
  have B7 := Lib.hid (B6.out.alloc B6.out.size (.cells #[.int .i64 3, .int .i64 0, .int .i64 0, .int .i64 0, .int .u32 0, .int .i64 3, .int .i64 1, .int .i64 0, .int .i64 0, .int .u32 0] 27 (0, 0)))
  have HSK := Lib.hid (srcP2 w6 27 a.B a.G (by have := (H4.out.below B6.out).sv.st.nd.ar.lt.2; exact this) (by have := ((H4.out.below B6.out).sv.st.nd.row.lt a.G rfl).2; exact this))
  have HKP : Hid (∀ i, i < 2 → KRight kkP i) := Lib.hid kkP_right
  go_wp2_with (first
    | (go_at_call 33; (with_reducible refine (nmake_at 0 vs vr (some ⟨w6.heap.size, 0, none⟩) 2 2 kkP (by decide) HKP 0 (Lib.hid rfl) (by have := HN.out; omega) (Lib.hid (by decide)) (Lib.hid (by intro i hi; omega)) 0 (Lib.hid rfl) _ (HE.out.below (HB.out.1.trans ((H4.out.below B7.out).sv.bel.mono (by have := HB.out.2; omega)))) (H4.out.below B7.out).sv.st.nd HSK.out).mono ?_); rintro e w8 ⟨rfl, hM, hb⟩; have H8 := Lib.hid ((H4.out.below B7.out).node hM hb ways_nil); have HY8 := Lib.hid ((HY4.out.below B7.out).kept hb.2.2.2.1 (fun q hq1 hq2 => hb.2.2.2.2 q hq2 (by have := HLN.out; have := HO.out; omega) (by have := HLN.out; have := HO.out; omega))); clear hM hb))
  refine hK.out _ _ ⟨H8.out.m0, H8.out.sv.st.s0⟩ (fun hHeld => ?_)
  clear hK K
  (try simp only [Act.put, List.getElem_toArray, List.getElem_cons_succ, List.getElem_cons_zero, List.setIfInBounds_toArray, List.set_cons_zero, List.set_cons_succ])
  refine wpAnyH_done (by kernel_rfl) ?_ _
  refine NoPanic.normal ?_
  have HYg : Hid (w1.heap.size ≤ Y.gN ∧ w1.heap.size ≤ Y.gP ∧ w1.heap.size ≤ Y.bN ∧ w1.heap.size ≤ Y.bP) := Lib.hid ⟨(HY8.out.ns.lt Y.gN rfl).1, (HY8.out.ps.lt Y.gP rfl).1, (HY8.out.nd.lt Y.bN rfl).1, (HY8.out.pg.lt Y.bP rfl).1⟩
  have HW1 : Hid (w.heap.size < w1.heap.size) := Lib.hid (by have h1 := H1.out.sv.bel.size; have := HB.out.2; omega)
  have HS8 : Hid (SrcU w8 al zs Y.gP Y.bP) := Lib.hid (HU.out.src (fun q hq => (H8.out.sv.bel.block q (by have := HB.out.2; omega)).trans (HB.out.1.block q hq)) (by have h1 := H8.out.sv.bel.size; have := HB.out.2; omega) (by have := HYg.out; have := HW1.out; omega) (by have := HYg.out; have := HW1.out; omega))
  clear H1 H2 HS2 H3 HY2 HY3 H4 HY4 HSS HD4 B5 B6 B7 HSK HKP
  go_upto_region 10 with (first
    | (go_at_call 35; (with_reducible refine (smakepage_any al k c 0 zs hk HZ (by have := HYn.out; omega) (by have := HYn.out; omega) (Lib.hid ⟨rfl, rfl⟩) (Lib.hid (by intro i hi; omega)) _ HY8.out HS8.out).mono ?_); rintro e w9 ⟨wP1, rfl, hs, hp⟩; have HY9 := Lib.hid hs; have H9 := Lib.hid (H8.out.apart ⟨hp.1, hp.2.1, hp.2.2.1⟩ hp.2.2.2.1 (fun q hq hc => hp.2.2.2.2 q hq (by have := HYg.out; have := HO.out; omega) (by have := HYg.out; have := HO.out; omega))); clear hs hp)
    | (go_at_call 35; (with_reducible refine (smakepage_any none 0 0 1 [] (by decide) (Lib.hid rfl) (by have := HYn.out; omega) (by have := HYn.out; omega) (Lib.hid ⟨up01, rfl⟩) (Lib.hid up0n) _ HY9.out ⟨fun j hj => by simp at hj⟩).mono ?_); rintro e w10 ⟨wP2, rfl, hs, hp⟩; have HY10 := Lib.hid hs; have H10 := Lib.hid (H9.out.apart ⟨hp.1, hp.2.1, hp.2.2.1⟩ hp.2.2.2.1 (fun q hq hc => hp.2.2.2.2 q hq (by have := HYg.out; have := HO.out; omega) (by have := HYg.out; have := HO.out; omega))); clear hs hp))
  go_upto_region 11 with (first
    | (go_at_call 37; (with_reducible refine (syskey_id 0 0 (Lib.hid rfl) (by have := HYn.out; omega) (Lib.hid up10) 0 (Lib.hid rfl) _ HY10.out).mono ?_); rintro e w11 ⟨rfl, hb⟩; have HY11 := Lib.hid (HY10.out.below hb); have H11 := Lib.hid (H10.out.below hb); clear hb)
    | (go_at_call 37; (with_reducible refine (syskey_id 1 1 (Lib.hid rfl) (by have := HYn.out; omega) (Lib.hid up11) 0 (Lib.hid rfl) _ HY11.out).mono ?_); rintro e w12 ⟨rfl, hb⟩; have HY12 := Lib.hid (HY11.out.below hb); have H12 := Lib.hid (H11.out.below hb); clear hb)
    | (go_at_call 36; (with_reducible refine (smakenode2 w12.heap.size 0 (by have := HYn.out; omega) (by have := HYn.out; omega) (Lib.hid ⟨rfl, rfl⟩) (Lib.hid (by intro i hi; omega)) _ (HY12.out.below ((Below.refl _ _).alloc (Nat.le_refl _) _)) (by simp) (Lib.hid (by have h1 := (HY12.out.ns.lt Y.gN rfl).2; have h2 := (HY12.out.nd.lt Y.bN rfl).2; omega)) (kk2_new _ _)).mono ?_); rintro e w13 ⟨wN, rfl, hs, hp⟩; have H13 := Lib.hid ((H12.out.below ((Below.refl _ _).alloc (Nat.le_refl _) _)).apart ⟨hp.1, hp.2.1, hp.2.2.1⟩ hp.2.2.2.1 (fun q hq hc => hp.2.2.2.2 q hq (by have := HYg.out; have := HO.out; omega) (by have := HYg.out; have := HO.out; omega))); clear hs hp))
  have m0 := H13.out.m0
  go_wp2_with (first
    | (go_at_call 38; (with_reducible refine (snodekey_in 0 1 0 (Lib.hid rfl) (by decide) (by decide) (by have := HN.out; omega) (Lib.hid rfl) 0 (Lib.hid rfl) _ H13.out.sv.st).mono ?_); rintro e w14 ⟨rfl, hb⟩; have H14 := Lib.hid (H13.out.below hb); have HK14 := Lib.hid (HK0.out.below H14.out.sv.bel); have y0 := HK14.out.c0; have y1 := HK14.out.c1; have y2 := HK14.out.c2; have y3 := HK14.out.c3; have y4 := HK14.out.c4; have g0 := HK14.out.fr 0; have g1 := HK14.out.fr 1; have g2 := HK14.out.fr 2; have g3 := HK14.out.fr 3; have g4 := HK14.out.fr 4; clear hb m0))
  have t := HK14.out.set 2 0 0 0 1
  have t0 := t.c0
  have t1 := t.c1
  have t2 := t.c2
  have t3 := t.c3
  have t4 := t.c4
  refine bodyPost_ret (v := .tuple #[.pointer (some ⟨mb, 0, none⟩), .pointer (some ⟨Y.x, 0, none⟩), .agg #[.int .i64 2, .int .i64 0, .int .i64 0, .int .i64 0, .int .u32 1]]) (by simp [results, Tryd.results20, go_sem, t0, t1, t2, t3, t4]) rfl ⟨mb, S, a, b, N, cb, Y.x, freshV (fun _ b => zc b) 0 (kcs kkP 2), W2, rfl, ?_, ?_⟩
  · have h2 := H14.out.sv.wb
    have h3 := H14.out.n0
    have h4 := HB.out.2
    exact H14.out.low5 HB.out.1 (Nat.le_refl _) (by omega) (by omega) 2 0 0 0 1
  · rw [hW2]
    exact Lib.hid (m17_of a b zs HN.out.1 HN.out.2 hzl)
end Go.Proofs.YtjkbfhojjjkgnaaDoor
namespace Go.Proofs.YtjkbfhojjjkgnaaDoor
open Go.ChangeShapes Go.WideShapes Go.ChangeAt Go.RowKit
set_option linter.unusedVariables false
set_option linter.unusedSimpArgs false
/-- An event of no key and no note. -/
def evA (kd ft ad : Int) : Array Value := #[.int .i64 kd, .int .i64 0, .int .i64 0, .int .i64 0, .int .i64 0, .int .i64 0, .int .u32 0, .int .u32 0, .int .u32 0, .int .u32 0, .int .u32 0, .int .i64 0, .int .i64 0, .int .i64 0, .int .i64 0, .int .u32 0, .int .i64 0, .int .i64 0, .int .i64 0, .int .i64 0, .int .u32 0, .int .i64 0, .int .i64 0, .int .i64 0, .int .i64 0, .int .u32 0, .int .i64 ft, .int .u32 ad]
theorem evA_size (kd ft ad : Int) : (evA kd ft ad).size = 28 := rfl
theorem evA_one (kd ft ad : Int) : (evA kd ft ad).all (·.oneCell') = true := by simp [evA, Value.oneCell']
theorem infoEv : (Tryd.prog.info? 63).map (·.size) = some 28 := by kernel_rfl
theorem there_new (w : World) (z : Array Value) (n : Nat) (hz : z.size = n) (T : TypeId) : World.there (w.alloc (.cells z T (0, 0))) w.heap.size 0 n := fun j hj => by
  simp [hz, hj]
theorem there_same {w w' : World} {b o n : Nat} (h : World.there w b o n) (e : w'.heap[b]? = w.heap[b]?) : World.there w' b o n := fun j hj => by
  rw [World.cell?_of_block (a := ⟨b, o + j, none⟩) e, World.frozen?_of_block (a := ⟨b, o + j, none⟩) e]
  exact h j hj
theorem range_same {w w' : World} {b o : Nat} {cs : List Value} (h : w.rangeAt b o cs) (e : w'.heap[b]? = w.heap[b]?) : w'.rangeAt b o cs := fun j u hj => (World.cell?_of_block (a := ⟨b, o + j, none⟩) e).trans (h j u hj)
/-- An event's cells, any. -/
structure EvOk (ev : Array Value) (kd : Int) : Prop where
  sz : ev.size = 28
  one : ev.all (·.oneCell') = true
  kd : ev.toList[0]? = some (.int .i64 kd)
theorem evA_ok (kd ft ad : Int) : EvOk (evA kd ft ad) kd := ⟨rfl, evA_one kd ft ad, rfl⟩
theorem EvOk.info {ev : Array Value} {kd : Int} (h : EvOk ev kd) : (Tryd.prog.info? 63).map (·.size) = some ev.size := by rw [h.sz]; exact infoEv
theorem EvOk.len {ev : Array Value} {kd : Int} (h : EvOk ev kd) : ev.toList.length = 28 := by rw [Array.length_toList, h.sz]
theorem EvOk.load {ev : Array Value} {kd : Int} (h : EvOk ev kd) {W : World} {b : Nat} (hr : W.rangeAt b 0 ev.toList) : (loadVar 63 ⟨b, 0, none⟩).run Tryd.prog W = .ok (.agg ev) W := by
  have := run_loadVar_mid (P := Tryd.prog) W b 0 63 ev.toList _ hr Tryd.underlying63 rfl (by rw [h.len]; exact infoEv)
  simpa using this
theorem EvOk.stored {ev : Array Value} {kd : Int} (h : EvOk ev kd) {W : World} {b : Nat} (ht : World.there W b 0 28) : (W.setCells b 0 ev.toList).rangeAt b 0 ev.toList := World.rangeAt_setCells_same W b 0 ev.toList (by rw [h.len]; exact ht)
theorem EvOk.cell {ev : Array Value} {kd : Int} (h : EvOk ev kd) {W : World} {b : Nat} (hr : W.rangeAt b 0 ev.toList) : W.cell? ⟨b, 0, none⟩ = some (.int .i64 kd) := hr 0 _ h.kd
theorem below_cells {N b : Nat} {W0 w : World} (h : Below N W0 w) (hb : N ≤ b) : ∀ (cs : List Value) (o : Nat), Below N W0 (w.setCells b o cs) := by
  intro cs
  induction cs generalizing w with
  | nil => intro o; exact h
  | cons u r ih => intro o; exact ih (h.setCell hb u) (o + 1)
theorem results_ev {fn : Func} {p : Tmp} {ty : TypeId} (h : fn.results = #[.cell p ty]) (tmps : Array Value) (P : Program) (w : World) (g : Nat) (v : Value) (hp : tmps.getD p undef = .pointer (some ⟨g, 0, none⟩)) (hl : (loadVar ty ⟨g, 0, none⟩).run P w = .ok v w) : (results fn tmps).run P w = .ok v w := by
  have hp' : tmps[p]?.getD undef = .pointer (some ⟨g, 0, none⟩) := by simpa using hp
  simp [results, h, hp', asAddr, hl]
set_option maxRecDepth 100000 in
theorem cfaults_is (ft ad : Int) (w : World) : Calls Tryd.prog 40 #[.int .i64 ft, .int .u32 ad] w fun e w' => e = .returned (.agg (evA 4 ft ad)) ∧ Below w.heap.size w w' := by
  go_enter Tryd.func40, Tryd.ntmps40
  go_upto_region 1 with fail
  generalize hA : World.alloc w _ = wA
  have HA : Hid (Below w.heap.size w wA ∧ World.there wA w.heap.size 0 28) := Lib.hid (by rw [← hA]; exact ⟨(Below.refl _ _).alloc (Nat.le_refl _) _, there_new _ _ _ rfl _⟩)
  clear hA
  go_wp2_with (refine wpList_store_mid (by rfl) _ _ _ (by rfl) w.heap.size 0 (evA 4 ft ad) (by rfl) (by rfl) HA.out.2 infoEv (evA_one _ _ _) ?_)
  have hld := (evA_ok 4 ft ad).load ((evA_ok 4 ft ad).stored HA.out.2)
  refine bodyPost_ret (v := .agg (evA 4 ft ad)) (results_ev Tryd.results40 _ _ _ _ _ (by rfl) hld) rfl ⟨rfl, ?_⟩
  exact below_cells HA.out.1 (Nat.le_refl _) _ _
theorem there_new2 (w : World) (o : Obj) (z : Array Value) (n : Nat) (hz : z.size = n) (T : TypeId) : World.there ((w.alloc o).alloc (.cells z T (0, 0))) (w.heap.size + 1) 0 n := by
  have h := there_new (w.alloc o) z n hz T
  rw [show (w.alloc o).heap.size = w.heap.size + 1 by simp] at h
  exact h
/-- An instruction in a block of its own. -/
structure Ins (w : World) (b : Nat) (p0 p1 p2 p3 p4 : Int) : Prop where
  lt : b < w.heap.size
  c0 : w.cell? ⟨b, 0, none⟩ = some (.int .i64 p0)
  c1 : w.cell? ⟨b, 1, none⟩ = some (.int .i64 p1)
  c2 : w.cell? ⟨b, 2, none⟩ = some (.int .i64 p2)
  c3 : w.cell? ⟨b, 3, none⟩ = some (.int .i64 p3)
  c4 : w.cell? ⟨b, 4, none⟩ = some (.int .i64 p4)
theorem Ins.new (w : World) (o : Obj) (p0 p1 p2 p3 p4 : Int) (T : TypeId) : Ins ((w.alloc (.cells #[.int .i64 p0, .int .i64 p1, .int .i64 p2, .int .i64 p3, .int .i64 p4] T (0, 0))).alloc o) w.heap.size p0 p1 p2 p3 p4 := ⟨by simp; omega, by simp, by simp, by simp, by simp, by simp⟩
theorem Ins.below {w w' : World} {b : Nat} {p0 p1 p2 p3 p4 : Int} (h : Ins w b p0 p1 p2 p3 p4) (hb : Below w.heap.size w w') : Ins w' b p0 p1 p2 p3 p4 :=
  ⟨Nat.lt_of_lt_of_le h.lt hb.size, (hb.cell (p := ⟨b, 0, none⟩) h.lt).trans h.c0, (hb.cell (p := ⟨b, 1, none⟩) h.lt).trans h.c1, (hb.cell (p := ⟨b, 2, none⟩) h.lt).trans h.c2, (hb.cell (p := ⟨b, 3, none⟩) h.lt).trans h.c3, (hb.cell (p := ⟨b, 4, none⟩) h.lt).trans h.c4⟩
set_option maxRecDepth 100000 in
theorem cdo_jmp {w0 : World} {mb S : Nat} {a b : Shp} {N cb : Nat} {th : Nat → Bool} {vr_ : Nat → Int} {W : Nat → Nat → Value} {th2 : Nat → Bool} {vr2 : Nat → Int} {W2 : Nat → Nat → Int} {hits : Int} {v : Value} {E : List EW} {db : Nat} {f : Nat → Value} (t : Int) (t0 : 0 ≤ t) (t1 : t ≤ 4095) (w : World) (h : (CpAt w0 w mb S a b N cb th vr_ W th2 vr2 W2 hits v E db f)) :
    Calls Tryd.prog 42 #[.pointer (some ⟨mb, 0, none⟩), .pointer (some ⟨db, 0, none⟩), (Value.agg #[.int .i64 4, .int .i64 0, .int .i64 0, .int .i64 0, .int .i64 t])] w fun e w' => e = .returned (.agg (evA 0 0 0)) ∧ CQ w0 w mb S a b N cb th vr_ W th2 vr2 W2 hits hits v E db (updD f 8 (.int .u32 t)) w' := by
  have H := Lib.hid h
  have hw : IntKind.u32.wrap t = t := by rw [IntKind.wrap_u32]; omega
  clear h
  go_enter Tryd.func42, Tryd.ntmps42; go_upto_region 1 with fail; generalize hA : World.alloc (World.alloc w _) _ = wA; have HM : Hid (Mine w wA (w.heap.size + 1)) := Lib.hid ⟨by rw [← hA]; exact ((Below.refl _ _).alloc (Nat.le_refl _) _).alloc (by simp) _, by omega, by rw [← hA]; simp⟩; have HT : Hid (World.there wA (w.heap.size + 1) 0 28) := Lib.hid (by rw [← hA]; exact there_new2 _ _ _ _ rfl _); have HI := Lib.hid (by rw [← hA]; exact Ins.new _ _ _ _ _ _ _ _ : Ins wA w.heap.size _ _ _ _ _); clear hA; have HA := Lib.hid (H.out.below HM.out.bel); have i0 := HI.out.c0; have i1 := HI.out.c1; have i2 := HI.out.c2; have i3 := HI.out.c3; have i4 := HI.out.c4
  have c8 := HA.out.d.c 8 (by decide)
  have z8 := HA.out.d.fr 8
  go_upto_region 29 with fail
  have HQ := Lib.hid (HA.out.cq.set 8 (.int .u32 t) (by decide))
  have HT1 := Lib.hid (there_same HT.out (CQ.mine H.out HM.out HQ.out)); go_wp2_with (refine wpList_store_mid (by rfl) _ _ _ (by rfl) (w.heap.size + 1) 0 (evA 0 0 0) (by rfl) (by rfl) HT1.out infoEv (evA_one _ _ _) ?_); have hld := (evA_ok 0 0 0).load ((evA_ok 0 0 0).stored HT1.out); refine bodyPost_ret (v := .agg (evA 0 0 0)) (results_ev Tryd.results42 _ _ _ _ _ (by rfl) hld) rfl ⟨rfl, ?_⟩; exact CQ.out H.out HM.out HQ.out _ _
set_option maxRecDepth 100000 in
theorem cdo_halt {w0 : World} {mb S : Nat} {a b : Shp} {N cb : Nat} {th : Nat → Bool} {vr_ : Nat → Int} {W : Nat → Nat → Value} {th2 : Nat → Bool} {vr2 : Nat → Int} {W2 : Nat → Nat → Int} {hits : Int} {v : Value} {E : List EW} {db : Nat} {f : Nat → Value} (w : World) (h : (CpAt w0 w mb S a b N cb th vr_ W th2 vr2 W2 hits v E db f)) :
    Calls Tryd.prog 42 #[.pointer (some ⟨mb, 0, none⟩), .pointer (some ⟨db, 0, none⟩), (Value.agg #[.int .i64 13, .int .i64 0, .int .i64 0, .int .i64 0, .int .i64 0])] w fun e w' => e = .returned (.agg (evA 3 0 0)) ∧ CQ w0 w mb S a b N cb th vr_ W th2 vr2 W2 hits hits v E db f w' := by
  have H := Lib.hid h
  clear h
  go_enter Tryd.func42, Tryd.ntmps42; go_upto_region 1 with fail; generalize hA : World.alloc (World.alloc w _) _ = wA; have HM : Hid (Mine w wA (w.heap.size + 1)) := Lib.hid ⟨by rw [← hA]; exact ((Below.refl _ _).alloc (Nat.le_refl _) _).alloc (by simp) _, by omega, by rw [← hA]; simp⟩; have HT : Hid (World.there wA (w.heap.size + 1) 0 28) := Lib.hid (by rw [← hA]; exact there_new2 _ _ _ _ rfl _); have HI := Lib.hid (by rw [← hA]; exact Ins.new _ _ _ _ _ _ _ _ : Ins wA w.heap.size _ _ _ _ _); clear hA; have HA := Lib.hid (H.out.below HM.out.bel); have i0 := HI.out.c0; have i1 := HI.out.c1; have i2 := HI.out.c2; have i3 := HI.out.c3; have i4 := HI.out.c4
  go_upto_region 28 with fail
  have HQ := Lib.hid HA.out.cq
  have HT1 := Lib.hid (there_same HT.out (CQ.mine H.out HM.out HQ.out)); go_wp2_with (refine wpList_store_mid (by rfl) _ _ _ (by rfl) (w.heap.size + 1) 0 (evA 3 0 0) (by rfl) (by rfl) HT1.out infoEv (evA_one _ _ _) ?_); have hld := (evA_ok 3 0 0).load ((evA_ok 3 0 0).stored HT1.out); refine bodyPost_ret (v := .agg (evA 3 0 0)) (results_ev Tryd.results42 _ _ _ _ _ (by rfl) hld) rfl ⟨rfl, ?_⟩; exact CQ.out H.out HM.out HQ.out _ _
set_option maxRecDepth 100000 in
theorem cdo_li {w0 : World} {mb S : Nat} {a b : Shp} {N cb : Nat} {th : Nat → Bool} {vr_ : Nat → Int} {W : Nat → Nat → Value} {th2 : Nat → Bool} {vr2 : Nat → Int} {W2 : Nat → Nat → Int} {hits : Int} {v : Value} {E : List EW} {db : Nat} {f : Nat → Value} (A : Int) (q : Nat) (hA : Hid (A = q)) (hq : q < 8) (t : Int) (t0 : 0 ≤ t) (t1 : t ≤ 4095) (w : World) (h : (CpAt w0 w mb S a b N cb th vr_ W th2 vr2 W2 hits v E db f)) :
    Calls Tryd.prog 42 #[.pointer (some ⟨mb, 0, none⟩), .pointer (some ⟨db, 0, none⟩), (Value.agg #[.int .i64 1, .int .i64 A, .int .i64 0, .int .i64 0, .int .i64 t])] w fun e w' => e = .returned (.agg (evA 0 0 0)) ∧ CQ w0 w mb S a b N cb th vr_ W th2 vr2 W2 hits hits v E db (updD f q (.int .u32 t)) w' := by
  have e := hA.out
  subst e
  have H := Lib.hid h
  have hw : IntKind.u32.wrap t = t := by rw [IntKind.wrap_u32]; omega
  have q0 : (0 : Int) ≤ q := by omega
  have q1 : (q : Int) < 8 := by omega
  clear h hA
  go_enter Tryd.func42, Tryd.ntmps42; go_upto_region 1 with fail; generalize hA : World.alloc (World.alloc w _) _ = wA; have HM : Hid (Mine w wA (w.heap.size + 1)) := Lib.hid ⟨by rw [← hA]; exact ((Below.refl _ _).alloc (Nat.le_refl _) _).alloc (by simp) _, by omega, by rw [← hA]; simp⟩; have HT : Hid (World.there wA (w.heap.size + 1) 0 28) := Lib.hid (by rw [← hA]; exact there_new2 _ _ _ _ rfl _); have HI := Lib.hid (by rw [← hA]; exact Ins.new _ _ _ _ _ _ _ _ : Ins wA w.heap.size _ _ _ _ _); clear hA; have HA := Lib.hid (H.out.below HM.out.bel); have i0 := HI.out.c0; have i1 := HI.out.c1; have i2 := HI.out.c2; have i3 := HI.out.c3; have i4 := HI.out.c4
  have c8 := HA.out.d.c q (by omega)
  have z8 := HA.out.d.fr q
  go_upto_region 4 with fail
  have HQ := Lib.hid ((HA.out.cq.below (Below.refl wA.heap.size wA).drew).set q (.int .u32 t) (by omega))
  refine wp_region_noPanic ?_
  refine wp_region_held_drew (S := fun w' => World.cell? w' ⟨w.heap.size, 1, none⟩ = some (.int .i64 (q : Int))) (by kernel_rfl) (by simpa using i1) (fun hHeld => ?_)
  refine wpAnyH_take (i := 0) (v := ?_) (by rfl) (by kernel_rfl) (by kernel_rfl) (by kernel_rfl) (fun _ _ _ h => h) (Or.inl ⟨by kernel_rfl, ?_⟩) (by assumption) ?_; rotate_left 1; (focus (intro w hSw; (try dsimp only at hSw); simp only [List.getElem_toArray, List.getElem_cons_succ, List.getElem_cons_zero]; all_goals go_simp; all_goals (try with_reducible rfl))); (try simp only [Act.put, List.getElem_toArray, List.getElem_cons_succ, List.getElem_cons_zero, List.setIfInBounds_toArray, List.set_cons_zero, List.set_cons_succ])
  refine wpAnyH_take (i := 1) (v := ?_) (by rfl) (by kernel_rfl) (by kernel_rfl) (by kernel_rfl) (fun _ _ _ h => h) (Or.inl ⟨by kernel_rfl, ?_⟩) (by assumption) ?_; rotate_left 1; (focus (intro w hSw; (try dsimp only at hSw); simp only [List.getElem_toArray, List.getElem_cons_succ, List.getElem_cons_zero]; all_goals go_simp; all_goals (try with_reducible rfl))); (try simp only [Act.put, List.getElem_toArray, List.getElem_cons_succ, List.getElem_cons_zero, List.setIfInBounds_toArray, List.set_cons_zero, List.set_cons_succ])
  refine wpAnyH_take (i := 2) (v := ?_) (by rfl) (by kernel_rfl) (by kernel_rfl) (by kernel_rfl) (fun _ _ _ h => h) (Or.inl ⟨by kernel_rfl, ?_⟩) (by assumption) ?_; rotate_left 1; (focus (intro w hSw; (try dsimp only at hSw); simp only [List.getElem_toArray, List.getElem_cons_succ, List.getElem_cons_zero]; all_goals go_simp; all_goals (try with_reducible rfl))); (try simp only [Act.put, List.getElem_toArray, List.getElem_cons_succ, List.getElem_cons_zero, List.setIfInBounds_toArray, List.set_cons_zero, List.set_cons_succ])
  refine wpAnyH_take (i := 3) (v := ?_) (by rfl) (by kernel_rfl) (by kernel_rfl) (by kernel_rfl) (fun _ _ _ h => h) (Or.inl ⟨by kernel_rfl, ?_⟩) (by assumption) ?_; rotate_left 1; (focus (intro w hSw; (try dsimp only at hSw); simp only [List.getElem_toArray, List.getElem_cons_succ, List.getElem_cons_zero]; all_goals go_simp; all_goals (try with_reducible rfl))); (try simp only [Act.put, List.getElem_toArray, List.getElem_cons_succ, List.getElem_cons_zero, List.setIfInBounds_toArray, List.set_cons_zero, List.set_cons_succ])
  refine wpAnyH_take (i := 4) (v := ?_) (by rfl) (by kernel_rfl) (by kernel_rfl) (by kernel_rfl) (fun _ _ _ h => h) (Or.inl ⟨by kernel_rfl, ?_⟩) (by assumption) ?_; rotate_left 1; (focus (intro w hSw; (try dsimp only at hSw); simp only [List.getElem_toArray, List.getElem_cons_succ, List.getElem_cons_zero]; all_goals go_simp; all_goals (try with_reducible rfl))); (try simp only [Act.put, List.getElem_toArray, List.getElem_cons_succ, List.getElem_cons_zero, List.setIfInBounds_toArray, List.set_cons_zero, List.set_cons_succ])
  refine wpAnyH_take (i := 5) (v := ?_) (by rfl) (by kernel_rfl) (by kernel_rfl) (by kernel_rfl) (fun _ _ _ h => h) (Or.inl ⟨by kernel_rfl, ?_⟩) (by assumption) ?_; rotate_left 1; (focus (intro w hSw; (try dsimp only at hSw); simp only [List.getElem_toArray, List.getElem_cons_succ, List.getElem_cons_zero]; all_goals go_simp; all_goals (try with_reducible rfl))); (try simp only [Act.put, List.getElem_toArray, List.getElem_cons_succ, List.getElem_cons_zero, List.setIfInBounds_toArray, List.set_cons_zero, List.set_cons_succ])
  refine wpAnyH_take (i := 6) (v := ?_) (by rfl) (by kernel_rfl) (by kernel_rfl) (by kernel_rfl) (fun _ _ _ h => h) (Or.inl ⟨by kernel_rfl, ?_⟩) (by assumption) ?_; rotate_left 1; (focus (intro w hSw; (try dsimp only at hSw); simp only [List.getElem_toArray, List.getElem_cons_succ, List.getElem_cons_zero]; all_goals go_simp; all_goals (try with_reducible rfl))); (try simp only [Act.put, List.getElem_toArray, List.getElem_cons_succ, List.getElem_cons_zero, List.setIfInBounds_toArray, List.set_cons_zero, List.set_cons_succ])
  refine wpAnyH_take (i := 7) (v := ?_) (by rfl) (by kernel_rfl) (by kernel_rfl) (by kernel_rfl) (fun _ _ _ h => h) (Or.inl ⟨by kernel_rfl, ?_⟩) (by assumption) ?_; rotate_left 1; (focus (intro w hSw; (try dsimp only at hSw); simp only [List.getElem_toArray, List.getElem_cons_succ, List.getElem_cons_zero]; all_goals go_simp; all_goals (try with_reducible rfl))); (try simp only [Act.put, List.getElem_toArray, List.getElem_cons_succ, List.getElem_cons_zero, List.setIfInBounds_toArray, List.set_cons_zero, List.set_cons_succ])
  refine wpAnyH_ready (rs := [8]) (by kernel_rfl) (by simp) ?_; refine AllReadyH.cons (by rfl) (fun K hK => ?_) AllReadyH.nil; rw [if_pos (by kernel_rfl)]; simp only [List.getElem_toArray, List.getElem_cons_succ, List.getElem_cons_zero]
  go_wp2_with fail
  refine hK.out _ _ ((World.cell?_of_block (set_heap _ _ _ _ _ (Nat.ne_of_gt H.out.d.lt))).trans (by simpa using i1)) (fun hHeld => ?_)
  clear hK K
  (try simp only [Act.put, List.getElem_toArray, List.getElem_cons_succ, List.getElem_cons_zero, List.setIfInBounds_toArray, List.set_cons_zero, List.set_cons_succ])
  refine wpAnyH_done (by kernel_rfl) ?_ _
  refine NoPanic.normal ?_
  go_upto_region 29 with fail
  have HT1 := Lib.hid (there_same HT.out (CQ.mine H.out HM.out HQ.out)); go_wp2_with (refine wpList_store_mid (by rfl) _ _ _ (by rfl) (w.heap.size + 1) 0 (evA 0 0 0) (by rfl) (by rfl) HT1.out infoEv (evA_one _ _ _) ?_); have hld := (evA_ok 0 0 0).load ((evA_ok 0 0 0).stored HT1.out); refine bodyPost_ret (v := .agg (evA 0 0 0)) (results_ev Tryd.results42 _ _ _ _ _ (by rfl) hld) rfl ⟨rfl, ?_⟩; exact CQ.out H.out HM.out HQ.out _ _
set_option maxRecDepth 100000 in
theorem cdo_jz0 {w0 : World} {mb S : Nat} {a b : Shp} {N cb : Nat} {th : Nat → Bool} {vr_ : Nat → Int} {W : Nat → Nat → Value} {th2 : Nat → Bool} {vr2 : Nat → Int} {W2 : Nat → Nat → Int} {hits : Int} {v : Value} {E : List EW} {db : Nat} {f : Nat → Value} (A : Int) (q : Nat) (hA : Hid (A = q)) (hq : q < 8) (t : Int) (t0 : 0 ≤ t) (t1 : t ≤ 4095) (u : Int) (hu : f q = .int .u32 u) (hz : (u == 0) = true) (w : World) (h : (CpAt w0 w mb S a b N cb th vr_ W th2 vr2 W2 hits v E db f)) :
    Calls Tryd.prog 42 #[.pointer (some ⟨mb, 0, none⟩), .pointer (some ⟨db, 0, none⟩), (Value.agg #[.int .i64 5, .int .i64 A, .int .i64 0, .int .i64 0, .int .i64 t])] w fun e w' => e = .returned (.agg (evA 0 0 0)) ∧ CQ w0 w mb S a b N cb th vr_ W th2 vr2 W2 hits hits v E db (updD f 8 (.int .u32 t)) w' := by
  have e := hA.out
  subst e
  have H := Lib.hid h
  have hw : IntKind.u32.wrap t = t := by rw [IntKind.wrap_u32]; omega
  have q0 : (0 : Int) ≤ q := by omega
  have q1 : (q : Int) < 8 := by omega
  clear h hA
  go_enter Tryd.func42, Tryd.ntmps42; go_upto_region 1 with fail; generalize hA : World.alloc (World.alloc w _) _ = wA; have HM : Hid (Mine w wA (w.heap.size + 1)) := Lib.hid ⟨by rw [← hA]; exact ((Below.refl _ _).alloc (Nat.le_refl _) _).alloc (by simp) _, by omega, by rw [← hA]; simp⟩; have HT : Hid (World.there wA (w.heap.size + 1) 0 28) := Lib.hid (by rw [← hA]; exact there_new2 _ _ _ _ rfl _); have HI := Lib.hid (by rw [← hA]; exact Ins.new _ _ _ _ _ _ _ _ : Ins wA w.heap.size _ _ _ _ _); clear hA; have HA := Lib.hid (H.out.below HM.out.bel); have i0 := HI.out.c0; have i1 := HI.out.c1; have i2 := HI.out.c2; have i3 := HI.out.c3; have i4 := HI.out.c4
  have cq := HA.out.d.c q (by omega)
  rw [hu] at cq
  have c8 := HA.out.d.c 8 (by decide)
  have z8 := HA.out.d.fr 8
  clear hu
  go_upto_region 12 with fail
  refine wp_region_noPanic ?_
  refine wp_region_held_drew (S := fun w' => World.cell? w' ⟨w.heap.size, 1, none⟩ = some (.int .i64 (q : Int)) ∧ World.cell? w' ⟨db, q, none⟩ = some (.int .u32 u)) (by kernel_rfl) ⟨by simpa using i1, by simpa using cq⟩ (fun hHeld => ?_)
  refine wpAnyH_take (i := 0) (v := ?_) (by rfl) (by kernel_rfl) (by kernel_rfl) (by kernel_rfl) (fun _ _ _ h => h) (Or.inl ⟨by kernel_rfl, ?_⟩) (by assumption) ?_; rotate_left 1; (focus (intro w hSw; (try dsimp only at hSw); simp only [List.getElem_toArray, List.getElem_cons_succ, List.getElem_cons_zero]; all_goals go_simp; all_goals (try with_reducible rfl))); (try simp only [Act.put, List.getElem_toArray, List.getElem_cons_succ, List.getElem_cons_zero, List.setIfInBounds_toArray, List.set_cons_zero, List.set_cons_succ])
  refine wpAnyH_take (i := 1) (v := ?_) (by rfl) (by kernel_rfl) (by kernel_rfl) (by kernel_rfl) (fun _ _ _ h => h) (Or.inl ⟨by kernel_rfl, ?_⟩) (by assumption) ?_; rotate_left 1; (focus (intro w hSw; (try dsimp only at hSw); simp only [List.getElem_toArray, List.getElem_cons_succ, List.getElem_cons_zero]; all_goals go_simp; all_goals (try with_reducible rfl))); (try simp only [Act.put, List.getElem_toArray, List.getElem_cons_succ, List.getElem_cons_zero, List.setIfInBounds_toArray, List.set_cons_zero, List.set_cons_succ])
  refine wpAnyH_take (i := 2) (v := ?_) (by rfl) (by kernel_rfl) (by kernel_rfl) (by kernel_rfl) (fun _ _ _ h => h) (Or.inl ⟨by kernel_rfl, ?_⟩) (by assumption) ?_; rotate_left 1; (focus (intro w hSw; (try dsimp only at hSw); simp only [List.getElem_toArray, List.getElem_cons_succ, List.getElem_cons_zero]; all_goals go_simp; all_goals (try with_reducible rfl))); (try simp only [Act.put, List.getElem_toArray, List.getElem_cons_succ, List.getElem_cons_zero, List.setIfInBounds_toArray, List.set_cons_zero, List.set_cons_succ])
  refine wpAnyH_take (i := 3) (v := ?_) (by rfl) (by kernel_rfl) (by kernel_rfl) (by kernel_rfl) (fun _ _ _ h => h) (Or.inl ⟨by kernel_rfl, ?_⟩) (by assumption) ?_; rotate_left 1; (focus (intro w hSw; (try dsimp only at hSw); simp only [List.getElem_toArray, List.getElem_cons_succ, List.getElem_cons_zero]; all_goals go_simp; all_goals (try with_reducible rfl))); (try simp only [Act.put, List.getElem_toArray, List.getElem_cons_succ, List.getElem_cons_zero, List.setIfInBounds_toArray, List.set_cons_zero, List.set_cons_succ])
  refine wpAnyH_take (i := 4) (v := ?_) (by rfl) (by kernel_rfl) (by kernel_rfl) (by kernel_rfl) (fun _ _ _ h => h) (Or.inl ⟨by kernel_rfl, ?_⟩) (by assumption) ?_; rotate_left 1; (focus (intro w hSw; (try dsimp only at hSw); simp only [List.getElem_toArray, List.getElem_cons_succ, List.getElem_cons_zero]; all_goals go_simp; all_goals (try with_reducible rfl))); (try simp only [Act.put, List.getElem_toArray, List.getElem_cons_succ, List.getElem_cons_zero, List.setIfInBounds_toArray, List.set_cons_zero, List.set_cons_succ])
  refine wpAnyH_take (i := 5) (v := ?_) (by rfl) (by kernel_rfl) (by kernel_rfl) (by kernel_rfl) (fun _ _ _ h => h) (Or.inl ⟨by kernel_rfl, ?_⟩) (by assumption) ?_; rotate_left 1; (focus (intro w hSw; (try dsimp only at hSw); simp only [List.getElem_toArray, List.getElem_cons_succ, List.getElem_cons_zero]; all_goals go_simp; all_goals (try with_reducible rfl))); (try simp only [Act.put, List.getElem_toArray, List.getElem_cons_succ, List.getElem_cons_zero, List.setIfInBounds_toArray, List.set_cons_zero, List.set_cons_succ])
  refine wpAnyH_take (i := 6) (v := ?_) (by rfl) (by kernel_rfl) (by kernel_rfl) (by kernel_rfl) (fun _ _ _ h => h) (Or.inl ⟨by kernel_rfl, ?_⟩) (by assumption) ?_; rotate_left 1; (focus (intro w hSw; (try dsimp only at hSw); simp only [List.getElem_toArray, List.getElem_cons_succ, List.getElem_cons_zero]; all_goals go_simp; all_goals (try with_reducible rfl))); (try simp only [Act.put, List.getElem_toArray, List.getElem_cons_succ, List.getElem_cons_zero, List.setIfInBounds_toArray, List.set_cons_zero, List.set_cons_succ])
  refine wpAnyH_take (i := 7) (v := ?_) (by rfl) (by kernel_rfl) (by kernel_rfl) (by kernel_rfl) (fun _ _ _ h => h) (Or.inl ⟨by kernel_rfl, ?_⟩) (by assumption) ?_; rotate_left 1; (focus (intro w hSw; (try dsimp only at hSw); simp only [List.getElem_toArray, List.getElem_cons_succ, List.getElem_cons_zero]; all_goals go_simp; all_goals (try with_reducible rfl))); (try simp only [Act.put, List.getElem_toArray, List.getElem_cons_succ, List.getElem_cons_zero, List.setIfInBounds_toArray, List.set_cons_zero, List.set_cons_succ])
  refine wpAnyH_take (i := 8) (v := ?_) (by rfl) (by kernel_rfl) (by kernel_rfl) (by kernel_rfl) (fun _ _ _ h => h) (Or.inl ⟨by kernel_rfl, ?_⟩) (by assumption) ?_; rotate_left 1; (focus (intro w hSw; (try dsimp only at hSw); simp only [List.getElem_toArray, List.getElem_cons_succ, List.getElem_cons_zero]; all_goals go_simp; all_goals (try with_reducible rfl))); (try simp only [Act.put, List.getElem_toArray, List.getElem_cons_succ, List.getElem_cons_zero, List.setIfInBounds_toArray, List.set_cons_zero, List.set_cons_succ])
  refine wpAnyH_done (by kernel_rfl) ?_ _
  refine NoPanic.normal ?_
  go_upto_region 29 with fail
  have HQ := Lib.hid ((HA.out.cq.below (Below.refl wA.heap.size wA).drew).set 8 (.int .u32 t) (by decide))
  have HT1 := Lib.hid (there_same HT.out (CQ.mine H.out HM.out HQ.out)); go_wp2_with (refine wpList_store_mid (by rfl) _ _ _ (by rfl) (w.heap.size + 1) 0 (evA 0 0 0) (by rfl) (by rfl) HT1.out infoEv (evA_one _ _ _) ?_); have hld := (evA_ok 0 0 0).load ((evA_ok 0 0 0).stored HT1.out); refine bodyPost_ret (v := .agg (evA 0 0 0)) (results_ev Tryd.results42 _ _ _ _ _ (by rfl) hld) rfl ⟨rfl, ?_⟩; exact CQ.out H.out HM.out HQ.out _ _
set_option maxRecDepth 100000 in
theorem cdo_jz1 {w0 : World} {mb S : Nat} {a b : Shp} {N cb : Nat} {th : Nat → Bool} {vr_ : Nat → Int} {W : Nat → Nat → Value} {th2 : Nat → Bool} {vr2 : Nat → Int} {W2 : Nat → Nat → Int} {hits : Int} {v : Value} {E : List EW} {db : Nat} {f : Nat → Value} (A : Int) (q : Nat) (hA : Hid (A = q)) (hq : q < 8) (t : Int) (t0 : 0 ≤ t) (t1 : t ≤ 4095) (u : Int) (hu : f q = .int .u32 u) (hz : (u == 0) = false) (w : World) (h : (CpAt w0 w mb S a b N cb th vr_ W th2 vr2 W2 hits v E db f)) :
    Calls Tryd.prog 42 #[.pointer (some ⟨mb, 0, none⟩), .pointer (some ⟨db, 0, none⟩), (Value.agg #[.int .i64 5, .int .i64 A, .int .i64 0, .int .i64 0, .int .i64 t])] w fun e w' => e = .returned (.agg (evA 0 0 0)) ∧ CQ w0 w mb S a b N cb th vr_ W th2 vr2 W2 hits hits v E db f w' := by
  have e := hA.out
  subst e
  have H := Lib.hid h
  have hw : IntKind.u32.wrap t = t := by rw [IntKind.wrap_u32]; omega
  have q0 : (0 : Int) ≤ q := by omega
  have q1 : (q : Int) < 8 := by omega
  clear h hA
  go_enter Tryd.func42, Tryd.ntmps42; go_upto_region 1 with fail; generalize hA : World.alloc (World.alloc w _) _ = wA; have HM : Hid (Mine w wA (w.heap.size + 1)) := Lib.hid ⟨by rw [← hA]; exact ((Below.refl _ _).alloc (Nat.le_refl _) _).alloc (by simp) _, by omega, by rw [← hA]; simp⟩; have HT : Hid (World.there wA (w.heap.size + 1) 0 28) := Lib.hid (by rw [← hA]; exact there_new2 _ _ _ _ rfl _); have HI := Lib.hid (by rw [← hA]; exact Ins.new _ _ _ _ _ _ _ _ : Ins wA w.heap.size _ _ _ _ _); clear hA; have HA := Lib.hid (H.out.below HM.out.bel); have i0 := HI.out.c0; have i1 := HI.out.c1; have i2 := HI.out.c2; have i3 := HI.out.c3; have i4 := HI.out.c4
  have cq := HA.out.d.c q (by omega)
  rw [hu] at cq
  have c8 := HA.out.d.c 8 (by decide)
  have z8 := HA.out.d.fr 8
  clear hu
  go_upto_region 12 with fail
  refine wp_region_noPanic ?_
  refine wp_region_held_drew (S := fun w' => World.cell? w' ⟨w.heap.size, 1, none⟩ = some (.int .i64 (q : Int)) ∧ World.cell? w' ⟨db, q, none⟩ = some (.int .u32 u)) (by kernel_rfl) ⟨by simpa using i1, by simpa using cq⟩ (fun hHeld => ?_)
  refine wpAnyH_take (i := 0) (v := ?_) (by rfl) (by kernel_rfl) (by kernel_rfl) (by kernel_rfl) (fun _ _ _ h => h) (Or.inl ⟨by kernel_rfl, ?_⟩) (by assumption) ?_; rotate_left 1; (focus (intro w hSw; (try dsimp only at hSw); simp only [List.getElem_toArray, List.getElem_cons_succ, List.getElem_cons_zero]; all_goals go_simp; all_goals (try with_reducible rfl))); (try simp only [Act.put, List.getElem_toArray, List.getElem_cons_succ, List.getElem_cons_zero, List.setIfInBounds_toArray, List.set_cons_zero, List.set_cons_succ])
  refine wpAnyH_take (i := 1) (v := ?_) (by rfl) (by kernel_rfl) (by kernel_rfl) (by kernel_rfl) (fun _ _ _ h => h) (Or.inl ⟨by kernel_rfl, ?_⟩) (by assumption) ?_; rotate_left 1; (focus (intro w hSw; (try dsimp only at hSw); simp only [List.getElem_toArray, List.getElem_cons_succ, List.getElem_cons_zero]; all_goals go_simp; all_goals (try with_reducible rfl))); (try simp only [Act.put, List.getElem_toArray, List.getElem_cons_succ, List.getElem_cons_zero, List.setIfInBounds_toArray, List.set_cons_zero, List.set_cons_succ])
  refine wpAnyH_take (i := 2) (v := ?_) (by rfl) (by kernel_rfl) (by kernel_rfl) (by kernel_rfl) (fun _ _ _ h => h) (Or.inl ⟨by kernel_rfl, ?_⟩) (by assumption) ?_; rotate_left 1; (focus (intro w hSw; (try dsimp only at hSw); simp only [List.getElem_toArray, List.getElem_cons_succ, List.getElem_cons_zero]; all_goals go_simp; all_goals (try with_reducible rfl))); (try simp only [Act.put, List.getElem_toArray, List.getElem_cons_succ, List.getElem_cons_zero, List.setIfInBounds_toArray, List.set_cons_zero, List.set_cons_succ])
  refine wpAnyH_take (i := 3) (v := ?_) (by rfl) (by kernel_rfl) (by kernel_rfl) (by kernel_rfl) (fun _ _ _ h => h) (Or.inl ⟨by kernel_rfl, ?_⟩) (by assumption) ?_; rotate_left 1; (focus (intro w hSw; (try dsimp only at hSw); simp only [List.getElem_toArray, List.getElem_cons_succ, List.getElem_cons_zero]; all_goals go_simp; all_goals (try with_reducible rfl))); (try simp only [Act.put, List.getElem_toArray, List.getElem_cons_succ, List.getElem_cons_zero, List.setIfInBounds_toArray, List.set_cons_zero, List.set_cons_succ])
  refine wpAnyH_take (i := 4) (v := ?_) (by rfl) (by kernel_rfl) (by kernel_rfl) (by kernel_rfl) (fun _ _ _ h => h) (Or.inl ⟨by kernel_rfl, ?_⟩) (by assumption) ?_; rotate_left 1; (focus (intro w hSw; (try dsimp only at hSw); simp only [List.getElem_toArray, List.getElem_cons_succ, List.getElem_cons_zero]; all_goals go_simp; all_goals (try with_reducible rfl))); (try simp only [Act.put, List.getElem_toArray, List.getElem_cons_succ, List.getElem_cons_zero, List.setIfInBounds_toArray, List.set_cons_zero, List.set_cons_succ])
  refine wpAnyH_take (i := 5) (v := ?_) (by rfl) (by kernel_rfl) (by kernel_rfl) (by kernel_rfl) (fun _ _ _ h => h) (Or.inl ⟨by kernel_rfl, ?_⟩) (by assumption) ?_; rotate_left 1; (focus (intro w hSw; (try dsimp only at hSw); simp only [List.getElem_toArray, List.getElem_cons_succ, List.getElem_cons_zero]; all_goals go_simp; all_goals (try with_reducible rfl))); (try simp only [Act.put, List.getElem_toArray, List.getElem_cons_succ, List.getElem_cons_zero, List.setIfInBounds_toArray, List.set_cons_zero, List.set_cons_succ])
  refine wpAnyH_take (i := 6) (v := ?_) (by rfl) (by kernel_rfl) (by kernel_rfl) (by kernel_rfl) (fun _ _ _ h => h) (Or.inl ⟨by kernel_rfl, ?_⟩) (by assumption) ?_; rotate_left 1; (focus (intro w hSw; (try dsimp only at hSw); simp only [List.getElem_toArray, List.getElem_cons_succ, List.getElem_cons_zero]; all_goals go_simp; all_goals (try with_reducible rfl))); (try simp only [Act.put, List.getElem_toArray, List.getElem_cons_succ, List.getElem_cons_zero, List.setIfInBounds_toArray, List.set_cons_zero, List.set_cons_succ])
  refine wpAnyH_take (i := 7) (v := ?_) (by rfl) (by kernel_rfl) (by kernel_rfl) (by kernel_rfl) (fun _ _ _ h => h) (Or.inl ⟨by kernel_rfl, ?_⟩) (by assumption) ?_; rotate_left 1; (focus (intro w hSw; (try dsimp only at hSw); simp only [List.getElem_toArray, List.getElem_cons_succ, List.getElem_cons_zero]; all_goals go_simp; all_goals (try with_reducible rfl))); (try simp only [Act.put, List.getElem_toArray, List.getElem_cons_succ, List.getElem_cons_zero, List.setIfInBounds_toArray, List.set_cons_zero, List.set_cons_succ])
  refine wpAnyH_take (i := 8) (v := ?_) (by rfl) (by kernel_rfl) (by kernel_rfl) (by kernel_rfl) (fun _ _ _ h => h) (Or.inl ⟨by kernel_rfl, ?_⟩) (by assumption) ?_; rotate_left 1; (focus (intro w hSw; (try dsimp only at hSw); simp only [List.getElem_toArray, List.getElem_cons_succ, List.getElem_cons_zero]; all_goals go_simp; all_goals (try with_reducible rfl))); (try simp only [Act.put, List.getElem_toArray, List.getElem_cons_succ, List.getElem_cons_zero, List.setIfInBounds_toArray, List.set_cons_zero, List.set_cons_succ])
  refine wpAnyH_done (by kernel_rfl) ?_ _
  refine NoPanic.normal ?_
  go_upto_region 29 with fail
  have HQ := Lib.hid (HA.out.cq.below (Below.refl wA.heap.size wA).drew)
  have HT1 := Lib.hid (there_same HT.out (CQ.mine H.out HM.out HQ.out)); go_wp2_with (refine wpList_store_mid (by rfl) _ _ _ (by rfl) (w.heap.size + 1) 0 (evA 0 0 0) (by rfl) (by rfl) HT1.out infoEv (evA_one _ _ _) ?_); have hld := (evA_ok 0 0 0).load ((evA_ok 0 0 0).stored HT1.out); refine bodyPost_ret (v := .agg (evA 0 0 0)) (results_ev Tryd.results42 _ _ _ _ _ (by rfl) hld) rfl ⟨rfl, ?_⟩; exact CQ.out H.out HM.out HQ.out _ _
end Go.Proofs.YtjkbfhojjjkgnaaDoor
namespace Go.Proofs.YtjkbfhojjjkgnaaDoor
open Go.ChangeShapes Go.WideShapes Go.ChangeAt Go.RowKit
set_option linter.unusedVariables false
set_option linter.unusedSimpArgs false
theorem Ins.new1 (w : World) (p0 p1 p2 p3 p4 : Int) (T : TypeId) : Ins (w.alloc (.cells #[.int .i64 p0, .int .i64 p1, .int .i64 p2, .int .i64 p3, .int .i64 p4] T (0, 0))) w.heap.size p0 p1 p2 p3 p4 := ⟨by simp, by simp, by simp, by simp, by simp, by simp⟩
theorem Ins.same {w w' : World} {b : Nat} {p0 p1 p2 p3 p4 : Int} (h : Ins w b p0 p1 p2 p3 p4) (hs : w.heap.size ≤ w'.heap.size) (e : w'.heap[b]? = w.heap[b]?) : Ins w' b p0 p1 p2 p3 p4 :=
  ⟨Nat.lt_of_lt_of_le h.lt hs, (World.cell?_of_block (a := ⟨b, 0, none⟩) e).trans h.c0, (World.cell?_of_block (a := ⟨b, 1, none⟩) e).trans h.c1, (World.cell?_of_block (a := ⟨b, 2, none⟩) e).trans h.c2, (World.cell?_of_block (a := ⟨b, 3, none⟩) e).trans h.c3, (World.cell?_of_block (a := ⟨b, 4, none⟩) e).trans h.c4⟩
set_option maxRecDepth 100000 in
set_option maxHeartbeats 4000000 in
/-- No memory at the place: the fault. -/
theorem cstep_fault {w0 : World} {mb S : Nat} {a b : Shp} {N cb : Nat} {th : Nat → Bool} {vr_ : Nat → Int} {W : Nat → Nat → Value} {th2 : Nat → Bool} {vr2 : Nat → Int} {W2 : Nat → Nat → Int} {hits : Int} {v : Value} {E : List EW} {db : Nat} {f : Nat → Value} (k0 k1 k2 k3 k4 : Int) (pc : Int) (ad : Nat) (hpc : Hid (pc = ad)) (had : ad ≤ 4294967295) (ids : List Int) (pg at_ : Int) (r : Bool) (ft : Int) (hft : (ft != 0) = true) (hf8 : f 8 = .int .u32 pc) (hf91 : f 91 = .int .i64 k0) (hf92 : f 92 = .int .i64 k1) (hf93 : f 93 = .int .i64 k2) (hf94 : f 94 = .int .i64 k3) (hf95 : f 95 = .int .u32 k4) (hh : Hid (hits ≤ 1000000)) (hw : Hid (Way a b th vr_ W th2 vr2 k0 k1 k2 k3 k4 5 ad false ids pg at_ r ft)) (w : World) (h : (CpAt w0 w mb S a b N cb th vr_ W th2 vr2 W2 hits v E db f)) :
    Calls Tryd.prog 21 #[.pointer (some ⟨mb, 0, none⟩), .pointer (some ⟨db, 0, none⟩)] w fun e w' => e = .returned (.agg (evA 4 ft pc)) ∧ CQ w0 w mb S a b N cb th vr_ W th2 vr2 W2 hits (hits + 1) v E db f w' := by
  have e := hpc.out
  subst e
  have H := Lib.hid h
  clear h hpc
  go_enter Tryd.func21, Tryd.ntmps21; go_upto_region 1 with fail; generalize hA : World.alloc w _ = wA; have HM : Hid (Mine w wA w.heap.size) := Lib.hid ⟨by rw [← hA]; exact (Below.refl _ _).alloc (Nat.le_refl _) _, Nat.le_refl _, by rw [← hA]; simp⟩; have HT : Hid (World.there wA w.heap.size 0 28) := Lib.hid (by rw [← hA]; exact there_new _ _ _ rfl _); clear hA; have HA := Lib.hid (H.out.below HM.out.bel)
  have q8 := HA.out.d.c 8 (by decide); have q91 := HA.out.d.c 91 (by decide); have q92 := HA.out.d.c 92 (by decide); have q93 := HA.out.d.c 93 (by decide); have q94 := HA.out.d.c 94 (by decide); have q95 := HA.out.d.c 95 (by decide); rw [hf8] at q8; rw [hf91] at q91; rw [hf92] at q92; rw [hf93] at q93; rw [hf94] at q94; rw [hf95] at q95
  clear hf8 hf91 hf92 hf93 hf94 hf95
  go_upto_region 4 with (first
    | (go_at_call 39; (with_reducible refine (cload_fault k0 k1 k2 k3 k4 ad had ids pg at_ r ft hft hh hw _ HA.out).mono ?_); rintro e w1 ⟨rfl, hq⟩; have HQ := Lib.hid hq; clear hq q8 q91 q92 q93 q94 q95))
  go_wp2_with (first
    | (go_at_call 40; (with_reducible refine (cfaults_is ft (ad : Int) _).mono ?_); rintro e w2 ⟨rfl, hb⟩; have HQ2 := Lib.hid (HQ.out.below hb); have HT1 := Lib.hid (there_same HT.out (CQ.mine H.out HM.out HQ2.out)); clear hb)
    | (refine wpList_store_mid (by rfl) _ _ _ (by rfl) w.heap.size 0 (evA 4 ft ad) (by rfl) (by rfl) HT1.out infoEv (evA_one _ _ _) ?_))
  have hld := (evA_ok 4 ft ad).load ((evA_ok 4 ft ad).stored HT1.out)
  refine bodyPost_ret (v := .agg (evA 4 ft ad)) (results_ev Tryd.results21 _ _ _ _ _ (by rfl) hld) rfl ⟨rfl, ?_⟩
  exact CQ.out H.out HM.out HQ2.out _ _
set_option maxRecDepth 100000 in
set_option maxHeartbeats 4000000 in
/-- No instruction at the place: the fault. -/
theorem cstep_word {w0 : World} {mb S : Nat} {a b : Shp} {N cb : Nat} {th : Nat → Bool} {vr_ : Nat → Int} {W : Nat → Nat → Value} {th2 : Nat → Bool} {vr2 : Nat → Int} {W2 : Nat → Nat → Int} {hits : Int} {v : Value} {E : List EW} {db : Nat} {f : Nat → Value} (k0 k1 k2 k3 k4 : Int) (pc : Int) (ad : Nat) (hpc : Hid (pc = ad)) (had : ad ≤ 4294967295) (ids : List Int) (pg at_ : Int) (r : Bool) (i x : Nat) (hpg : Hid (pg = i ∧ at_ = x)) (hi : i < b.n) (hx : x < 32) (hti : Hid (th2 i = true)) (z : Int) (hz : Hid (W2 i x = z)) (u0 : 0 ≤ z) (u1 : z ≤ 4294967295) (p0 p1 p2 p3 p4 : Int) (hp : Hid (PartsC z p0 p1 p2 p3 p4)) (hok : Hid (okB p0 p1 p2 p3 p4 = false)) (hf8 : f 8 = .int .u32 pc) (hf91 : f 91 = .int .i64 k0) (hf92 : f 92 = .int .i64 k1) (hf93 : f 93 = .int .i64 k2) (hf94 : f 94 = .int .i64 k3) (hf95 : f 95 = .int .u32 k4) (hh : Hid (hits ≤ 1000000)) (hw : Hid (Way a b th vr_ W th2 vr2 k0 k1 k2 k3 k4 5 ad false ids pg at_ r 0)) (xa ya : Addr) (hC : CodeAt (errC xa) (errC ya) w0) (w : World) (h : (CpAt w0 w mb S a b N cb th vr_ W th2 vr2 W2 hits v E db f)) :
    Calls Tryd.prog 21 #[.pointer (some ⟨mb, 0, none⟩), .pointer (some ⟨db, 0, none⟩)] w fun e w' => e = .returned (.agg (evA 4 1 pc)) ∧ CQ w0 w mb S a b N cb th vr_ W th2 vr2 W2 hits (hits + 1) v E db f w' := by
  have e := hpc.out
  subst e
  have H := Lib.hid h
  have HC := Lib.hid hC
  clear h hpc hC
  go_enter Tryd.func21, Tryd.ntmps21; go_upto_region 1 with fail; generalize hA : World.alloc w _ = wA; have HM : Hid (Mine w wA w.heap.size) := Lib.hid ⟨by rw [← hA]; exact (Below.refl _ _).alloc (Nat.le_refl _) _, Nat.le_refl _, by rw [← hA]; simp⟩; have HT : Hid (World.there wA w.heap.size 0 28) := Lib.hid (by rw [← hA]; exact there_new _ _ _ rfl _); clear hA; have HA := Lib.hid (H.out.below HM.out.bel)
  have q8 := HA.out.d.c 8 (by decide); have q91 := HA.out.d.c 91 (by decide); have q92 := HA.out.d.c 92 (by decide); have q93 := HA.out.d.c 93 (by decide); have q94 := HA.out.d.c 94 (by decide); have q95 := HA.out.d.c 95 (by decide); rw [hf8] at q8; rw [hf91] at q91; rw [hf92] at q92; rw [hf93] at q93; rw [hf94] at q94; rw [hf95] at q95
  clear hf8 hf91 hf92 hf93 hf94 hf95
  go_upto_region 7 with (first
    | (go_at_call 39; (with_reducible refine (cload_ok k0 k1 k2 k3 k4 ad had ids pg at_ r i x hpg hi hx hti z hz hh hw _ HA.out).mono ?_); rintro e w1 ⟨rfl, hq⟩; have HQ := Lib.hid hq; clear hq q8 q91 q92 q93 q94 q95)
    | (go_at_call 41; (with_reducible refine (cread_no z p0 p1 p2 p3 p4 xa ya _ (HC.out.below (CQ.bel0 HQ.out)) u0 u1 hp hok).mono ?_); rintro e w2 ⟨rfl, hb⟩; have HQ2 := Lib.hid (HQ.out.below hb); clear hb))
  go_wp2_with (first
    | (go_at_call 40; (with_reducible refine (cfaults_is 1 (ad : Int) _).mono ?_); rintro e w3 ⟨rfl, hb⟩; have HQ3 := Lib.hid ((HQ2.out.below ((Below.refl _ _).alloc (Nat.le_refl _) _)).below hb); have HT1 := Lib.hid (there_same HT.out (CQ.mine H.out HM.out HQ3.out)); clear hb)
    | (refine wpList_store_mid (by rfl) _ _ _ (by rfl) w.heap.size 0 (evA 4 1 ad) (by rfl) (by rfl) HT1.out infoEv (evA_one _ _ _) ?_))
  have hld := (evA_ok 4 1 ad).load ((evA_ok 4 1 ad).stored HT1.out)
  refine bodyPost_ret (v := .agg (evA 4 1 ad)) (results_ev Tryd.results21 _ _ _ _ _ (by rfl) hld) rfl ⟨rfl, ?_⟩
  exact CQ.out H.out HM.out HQ3.out _ _
set_option maxRecDepth 100000 in
set_option maxHeartbeats 8000000 in
/-- An instruction at the place: what it does. -/
theorem cstep_do {w0 : World} {mb S : Nat} {a b : Shp} {N cb : Nat} {th : Nat → Bool} {vr_ : Nat → Int} {W : Nat → Nat → Value} {th2 : Nat → Bool} {vr2 : Nat → Int} {W2 : Nat → Nat → Int} {hits : Int} {v : Value} {E : List EW} {db : Nat} {f : Nat → Value} (k0 k1 k2 k3 k4 : Int) (pc : Int) (ad : Nat) (hpc : Hid (pc = ad)) (had : ad ≤ 4294967295) (ids : List Int) (pg at_ : Int) (r : Bool) (i x : Nat) (hpg : Hid (pg = i ∧ at_ = x)) (hi : i < b.n) (hx : x < 32) (hti : Hid (th2 i = true)) (z : Int) (hz : Hid (W2 i x = z)) (u0 : 0 ≤ z) (u1 : z ≤ 4294967295) (p0 p1 p2 p3 p4 : Int) (hp : Hid (PartsC z p0 p1 p2 p3 p4)) (hok : Hid (okB p0 p1 p2 p3 p4 = true)) (hf8 : f 8 = .int .u32 pc) (hf91 : f 91 = .int .i64 k0) (hf92 : f 92 = .int .i64 k1) (hf93 : f 93 = .int .i64 k2) (hf94 : f 94 = .int .i64 k3) (hf95 : f 95 = .int .u32 k4) (hh : Hid (hits ≤ 1000000)) (hw : Hid (Way a b th vr_ W th2 vr2 k0 k1 k2 k3 k4 5 ad false ids pg at_ r 0)) (xa ya : Addr) (hC : CodeAt (errC xa) (errC ya) w0) (pc1 : Int) (hpc1 : Hid ((pc + 1) % 4294967296 = pc1)) (ev : Array Value) (kd : Int) (hk4 : (kd == 4) = false) (hev : Hid (EvOk ev kd)) (W2' : Nat → Nat → Int) (g : Nat → Value)
    (hdo : Hid (∀ w1 hits1 v1 E1, CpAt w0 w1 mb S a b N cb th vr_ W th2 vr2 W2 hits1 v1 E1 db (updD f 8 (.int .u32 pc1)) → hits ≤ hits1 → hits1 ≤ hits + 1 → Calls Tryd.prog 42 #[.pointer (some ⟨mb, 0, none⟩), .pointer (some ⟨db, 0, none⟩), (Value.agg #[.int .i64 p0, .int .i64 p1, .int .i64 p2, .int .i64 p3, .int .i64 p4])] w1 fun e w' => e = .returned (.agg ev) ∧ CQ w0 w1 mb S a b N cb th vr_ W th2 vr2 W2' hits1 (hits1 + 1) v1 E1 db g w')) (w : World) (h : (CpAt w0 w mb S a b N cb th vr_ W th2 vr2 W2 hits v E db f)) :
    Calls Tryd.prog 21 #[.pointer (some ⟨mb, 0, none⟩), .pointer (some ⟨db, 0, none⟩)] w fun e w' => e = .returned (.agg ev) ∧ CQ w0 w mb S a b N cb th vr_ W th2 vr2 W2' hits (hits + 2) v E db g w' := by
  have e := hpc.out
  subst e
  have H := Lib.hid h
  have HC := Lib.hid hC
  clear h hpc hC
  go_enter Tryd.func21, Tryd.ntmps21; go_upto_region 1 with fail; generalize hA : World.alloc w _ = wA; have HM : Hid (Mine w wA w.heap.size) := Lib.hid ⟨by rw [← hA]; exact (Below.refl _ _).alloc (Nat.le_refl _) _, Nat.le_refl _, by rw [← hA]; simp⟩; have HT : Hid (World.there wA w.heap.size 0 28) := Lib.hid (by rw [← hA]; exact there_new _ _ _ rfl _); clear hA; have HA := Lib.hid (H.out.below HM.out.bel)
  have q8 := HA.out.d.c 8 (by decide); have q91 := HA.out.d.c 91 (by decide); have q92 := HA.out.d.c 92 (by decide); have q93 := HA.out.d.c 93 (by decide); have q94 := HA.out.d.c 94 (by decide); have q95 := HA.out.d.c 95 (by decide); rw [hf8] at q8; rw [hf91] at q91; rw [hf92] at q92; rw [hf93] at q93; rw [hf94] at q94; rw [hf95] at q95
  go_upto_region 6 with (first
    | (go_at_call 39; (with_reducible refine (cload_ok k0 k1 k2 k3 k4 ad had ids pg at_ r i x hpg hi hx hti z hz hh hw _ HA.out).mono ?_); rintro e w1 ⟨rfl, hq⟩; have HQ := Lib.hid hq; clear hq q8 q91 q92 q93 q94 q95)
    | (go_at_call 41; (with_reducible refine (cread_ok z p0 p1 p2 p3 p4 xa ya _ (HC.out.below (CQ.bel0 HQ.out)) u0 u1 hp hok).mono ?_); rintro e w2 ⟨rfl, hb⟩; have HQ2 := Lib.hid (HQ.out.below hb); clear hb))
  generalize hw3 : World.alloc w2 _ = w3
  have HQ3 : Hid (CQ w0 wA mb S a b N cb th vr_ W th2 vr2 W2 hits (hits + 1) v E db f w3) := Lib.hid (by rw [← hw3]; exact HQ2.out.below ((Below.refl _ _).alloc (Nat.le_refl _) _))
  have HI3 : Hid (Ins w3 w2.heap.size p0 p1 p2 p3 p4) := Lib.hid (by rw [← hw3]; exact Ins.new1 _ _ _ _ _ _ _)
  have q8 := HQ3.out.dom.c 8 (by decide)
  have z8 := HQ3.out.dom.fr 8
  rw [hf8] at q8
  clear hw3 hf8 hf91 hf92 hf93 hf94 hf95
  go_upto_region 9 with fail
  generalize hw4 : World.setCell w3 _ _ = w4
  have HQ4 : Hid (CQ w0 wA mb S a b N cb th vr_ W th2 vr2 W2 hits (hits + 1) v E db (updD f 8 (.int .u32 pc1)) w4) := Lib.hid (by rw [← hw4]; have h := HQ3.out.set 8 (.int .u32 (((ad : Int) + 1) % 4294967296)) (by decide); rw [hpc1.out] at h ⊢; exact h)
  have HI4 : Hid (Ins w4 w2.heap.size p0 p1 p2 p3 p4) := Lib.hid (by rw [← hw4]; exact HI3.out.same (by simp) (set_heap _ _ _ _ _ (Nat.ne_of_gt (CQ.dlt HQ2.out))))
  clear hw4 q8 z8
  have i0 := HI4.out.c0
  have i1 := HI4.out.c1
  have i2 := HI4.out.c2
  have i3 := HI4.out.c3
  have i4 := HI4.out.c4
  obtain ⟨hits4, v4, E4, hC4, l1, l2, hk⟩ := HQ4.out
  have HC4 := Lib.hid hC4
  have HL := Lib.hid (And.intro l1 l2)
  have HK4 := Lib.hid hk
  clear hC4 l1 l2 hk
  go_upto_region 10 with (first
    | (go_at_call 42; (with_reducible refine (hdo.out _ hits4 v4 E4 HC4.out HL.out.1 HL.out.2).mono ?_); rintro e w5 ⟨rfl, hq⟩; have HQ5 := Lib.hid hq; clear hq i0 i1 i2 i3 i4)
    | (refine wpList_store_mid (by rfl) _ _ _ (by rfl) w5.heap.size 0 ev (by rfl) (by rfl) (by rw [hev.out.sz]; exact there_new _ _ _ rfl _) hev.out.info hev.out.one ?_))
  generalize hw6 : World.setCells (World.alloc w5 _) _ _ _ = w6
  have B6 : Hid (Below w5.heap.size w5 w6) := Lib.hid (by rw [← hw6]; exact below_cells ((Below.refl _ _).alloc (Nat.le_refl _) _) (Nat.le_refl _) _ _)
  have R6 : Hid (w6.rangeAt w5.heap.size 0 ev.toList) := Lib.hid (by rw [← hw6]; exact hev.out.stored (there_new _ _ _ rfl _))
  have e0 := hev.out.cell R6.out
  clear hw6
  have HQ6 : Hid (CQ w0 wA mb S a b N cb th vr_ W th2 vr2 W2' hits (hits + 2) v E db g w6) := Lib.hid (by
    obtain ⟨hits5, v5, E5, hC5, m1, m2, hk5⟩ := HQ5.out
    have := HL.out
    exact ⟨hits5, v5, E5, hC5.below B6.out, by omega, by omega, (HK4.out.trans hk5).below B6.out⟩)
  have HT1 := Lib.hid (there_same HT.out (CQ.mine H.out HM.out HQ6.out))
  go_upto_region 12 with fail
  go_wp2_with (first
    | (refine wpList_load_mid (by rfl) _ _ (by rfl) w5.heap.size 0 (by rfl) ev.toList _ R6.out Tryd.underlying63 rfl (by rw [hev.out.len]; exact infoEv) ?_; rw [show ev.toList.toArray = ev from by simp])
    | (refine wpList_store_mid (by rfl) _ _ _ (by rfl) w.heap.size 0 ev (by rfl) (by rfl) (by rw [hev.out.sz]; exact HT1.out) hev.out.info hev.out.one ?_))
  have hld := hev.out.load (hev.out.stored HT1.out)
  refine bodyPost_ret (v := .agg ev) (results_ev Tryd.results21 _ _ _ _ _ (by rfl) hld) rfl ⟨rfl, ?_⟩
  exact CQ.out H.out HM.out HQ6.out _ _
end Go.Proofs.YtjkbfhojjjkgnaaDoor
namespace Go.Proofs.YtjkbfhojjjkgnaaDoor
open Go.ChangeShapes Go.WideShapes Go.ChangeAt Go.RowKit
set_option linter.unusedVariables false
set_option linter.unusedSimpArgs false
theorem number_big (n m r : Int) (hm0 : 0 < m) (hm : m ≤ 100000) (h1 : -9223372036854775808 ≤ n) (h2 : n ≤ 9223372036854775807) (hr : Hid (n % m = r)) (w : World) :
    Calls Tryd.prog 18 #[.int .i64 n, .int .i64 m] w fun e w' => e = .returned (.int .i64 r) ∧ w = w' := by
  have e0 := Int.emod_nonneg n (show m ≠ 0 by omega)
  have e1 := Int.emod_lt_of_pos n hm0
  by_cases hn : 0 ≤ n
  · have hd : decide (n % m < 0) = false := decide_eq_false (by omega)
    have hm1 : 1 ≤ m := by omega
    go_enter Tryd.func18, Tryd.ntmps18
    go_wp2
    go_ret
    exact ⟨ret_i64 hr.out, rfl⟩
  · have ht := Int.tmod_eq_emod (a := n) (b := m)
    have hm1 : 1 ≤ m := by omega
    by_cases hdv : m ∣ n
    · rw [if_pos (Or.inr hdv)] at ht
      have hz := Int.emod_eq_zero_of_dvd hdv
      have ht2 : n.tmod m = 0 := by omega
      have hr0 : Hid (0 = r) := Lib.hid (by rw [← hr.out, hz])
      clear ht hz hdv e0 e1
      go_enter Tryd.func18, Tryd.ntmps18
      go_wp2
      go_ret
      exact ⟨ret_i64 hr0.out, rfl⟩
    · rw [if_neg (by omega)] at ht
      have hnz : n % m ≠ 0 := fun e => hdv (Int.dvd_of_emod_eq_zero e)
      obtain ⟨t, ht2⟩ : ∃ t, n.tmod m = t := ⟨_, rfl⟩
      have hab : (m.natAbs : Int) = m := by omega
      have hlt : t < 0 := by omega
      have hge : -100000 ≤ t := by omega
      have hr0 : Hid (t + m = r) := Lib.hid (by rw [← hr.out]; omega)
      have hd : decide (t < 0) = true := decide_eq_true hlt
      clear ht hdv e0 e1 hnz hab
      go_enter Tryd.func18, Tryd.ntmps18
      go_wp2
      go_ret
      exact ⟨ret_i64 hr0.out, rfl⟩
theorem number_natb (n m : Int) (M : Nat) (hm : m = (M : Int)) (hm0 : 0 < M) (hm1 : M ≤ 100000) (h1 : -9223372036854775808 ≤ n) (h2 : n ≤ 9223372036854775807) : ∃ r : Nat, r < M ∧ ∀ w, Calls Tryd.prog 18 #[.int .i64 n, .int .i64 m] w fun e w' => e = .returned (.int .i64 r) ∧ w = w' := by
  have e0 := Int.emod_nonneg n (show m ≠ 0 by omega)
  have e1 := Int.emod_lt_of_pos n (show 0 < m by omega)
  refine ⟨(n % m).toNat, by omega, fun w => ?_⟩
  exact number_big n m _ (by omega) (by omega) h1 h2 (Lib.hid (by omega)) w
theorem DomAt.new (w : World) (arr : Array Value) (hs : arr.size = 107) (T : TypeId) : DomAt (w.alloc (.cells arr T (0, 0))) w.heap.size (fun j => arr.getD j (.int .i64 0)) :=
  ⟨by simp, fun j hj => by simp [Array.getD, hs, hj], fun j => by simp⟩
/-- What a memory of no height at all says to a key of nothing. -/
theorem way_none {a b : Shp} {th : Nat → Bool} {vr_ : Nat → Int} {W : Nat → Nat → Value} {th2 : Nat → Bool} {vr2 : Nat → Int} (ad : Nat) : Way a b th vr_ W th2 vr2 0 0 0 0 0 5 ad false [] 0 0 false 2 := by
  exact .fault 0 false _ 2 (by decide) ⟨by decide, by decide⟩ rfl (by simp [entP]) (by decide)
theorem CpAt.start {w0 w : World} {mb S : Nat} {a b : Shp} {N cb : Nat} {th : Nat → Bool} {vr_ : Nat → Int} {W : Nat → Nat → Value} {th2 : Nat → Bool} {vr2 : Nat → Int} {W2 : Nat → Nat → Int} (hm : MemAt w0 w mb S a b N cb 4 th vr_ W th2 vr2 W2 0 (.slice none 0 0) []) (arr : Array Value) (hs : arr.size = 107) (T : TypeId) : CpAt w0 (w.alloc (.cells arr T (0, 0))) mb S a b N cb th vr_ W th2 vr2 W2 0 (.slice none 0 0) [] w.heap.size (fun j => arr.getD j (.int .i64 0)) :=
  ⟨hm.below ((Below.refl _ _).alloc (Nat.le_refl _) _), by simp, by decide, DomAt.new w arr hs T, .inr ⟨hm.nN, ⟨by have := hm.ca.cl; omega, by simp [Value.ownBlock]⟩, by have := hm.ml; omega, fun e he => by cases he⟩⟩
theorem dom_cells (W : World) (b : Nat) (arr : Array Value) (hs : arr.size = 107) (ht : World.there W b 0 107) (hl : b < W.heap.size) (hf : ∀ j, W.frozen? ⟨b, j, none⟩ = false) : DomAt (W.setCells b 0 arr.toList) b (fun j => arr.getD j (.int .i64 0)) := by
  have hr := World.rangeAt_setCells_same W b 0 arr.toList (by rw [Array.length_toList, hs]; exact ht)
  have hfr : ∀ j, (W.setCells b 0 arr.toList).frozen? ⟨b, j, none⟩ = W.frozen? ⟨b, j, none⟩ := fun j => World.frozen?_setCells b arr.toList 0 W ⟨b, j, none⟩
  refine ⟨by rw [size_setCells]; exact hl, fun j hj => ?_, fun j => ?_⟩
  · have h := hr j (arr.getD j (.int .i64 0)) (by simp [Array.getD, hs, hj])
    simpa using h
  · rw [hfr]
    exact hf j
theorem CpAt.start2 {w0 w : World} {mb S : Nat} {a b : Shp} {N cb : Nat} {th : Nat → Bool} {vr_ : Nat → Int} {W : Nat → Nat → Value} {th2 : Nat → Bool} {vr2 : Nat → Int} {W2 : Nat → Nat → Int} (hm : MemAt w0 w mb S a b N cb 4 th vr_ W th2 vr2 W2 0 (.slice none 0 0) []) (Z arr : Array Value) (hz : Z.size = 107) (hs : arr.size = 107) (T : TypeId) : CpAt w0 ((w.alloc (.cells Z T (0, 0))).setCells w.heap.size 0 arr.toList) mb S a b N cb th vr_ W th2 vr2 W2 0 (.slice none 0 0) [] w.heap.size (fun j => arr.getD j (.int .i64 0)) := by
  have h := CpAt.start hm Z hz T
  have h1 := hm.nN
  have h2 := hm.ca.cl
  have h3 := hm.ml
  exact ⟨MemAt.puts w.heap.size h1 (by omega) (by omega) (by simp [Value.ownBlock]) (fun e he => by cases he) arr.toList 0 _ h.m, h.el, h.h0, dom_cells _ _ arr hs (there_new w Z 107 hz T) (by simp) (fun j => by simp), h.ap⟩
/-- A domain of nothing but its memory. -/
def domM : Array Value := (#[.int .u32 0, .int .u32 0, .int .u32 0, .int .u32 0, .int .u32 0, .int .u32 0, .int .u32 0, .int .u32 0, .int .u32 0, .int .i64 0, .int .i64 0, .int .i64 0, .int .i64 0, .int .i64 0, .int .i64 0, .int .u32 0, .int .i64 0, .int .i64 0, .int .i64 0, .int .i64 0, .int .u32 0, .int .i64 0, .int .i64 0, .int .i64 0, .int .i64 0, .int .u32 0, .int .i64 0, .int .i64 0, .int .i64 0, .int .i64 0, .int .u32 0, .int .i64 0, .int .i64 0, .int .i64 0, .int .i64 0, .int .u32 0, .int .i64 0, .int .i64 0, .int .i64 0, .int .i64 0, .int .u32 0, .int .i64 0, .int .i64 0, .int .i64 0, .int .i64 0, .int .u32 0, .int .i64 0, .int .i64 0, .int .i64 0, .int .i64 0, .int .u32 0, .int .i64 0, .int .i64 0, .int .i64 0, .int .i64 0, .int .u32 0, .int .i64 0, .int .i64 0, .int .i64 0, .int .i64 0, .int .u32 0, .int .i64 0, .int .i64 0, .int .i64 0, .int .i64 0, .int .u32 0, .int .i64 0, .int .i64 0, .int .i64 0, .int .i64 0, .int .u32 0, .int .i64 0, .int .i64 0, .int .i64 0, .int .i64 0, .int .u32 0, .int .i64 0, .int .i64 0, .int .i64 0, .int .i64 0, .int .u32 0, .int .i64 0, .int .i64 0, .int .i64 0, .int .i64 0, .int .u32 0, .int .i64 0, .int .i64 0, .int .i64 0, .int .i64 0, .int .u32 0, .int .i64 2, .int .i64 0, .int .i64 0, .int .i64 0, .int .u32 1, .int .i64 0, .int .i64 0, .int .i64 0, .int .i64 0, .int .u32 0, .int .i64 0, .int .i64 0, .int .i64 0, .int .i64 0, .int .u32 0, .int .i64 0] : Array Value)
theorem domM_size : domM.size = 107 := rfl
theorem domM_one : domM.all (·.oneCell') = true := by kernel_rfl
theorem infoDom : (Tryd.prog.info? 30).map (·.size) = some 107 := by kernel_rfl
theorem zeroDom_size : Tryd.zeroCells30.size = 107 := by kernel_rfl
def fM : Nat → Value := fun j => domM.getD j (.int .i64 0)
theorem CpAt.startM {w0 w : World} {mb S : Nat} {a b : Shp} {N cb : Nat} {th : Nat → Bool} {vr_ : Nat → Int} {W : Nat → Nat → Value} {th2 : Nat → Bool} {vr2 : Nat → Int} {W2 : Nat → Nat → Int} (hm : MemAt w0 w mb S a b N cb 4 th vr_ W th2 vr2 W2 0 (.slice none 0 0) []) : CpAt w0 ((w.alloc (.cells Tryd.zeroCells30 30 (0, 0))).setCells w.heap.size 0 domM.toList) mb S a b N cb th vr_ W th2 vr2 W2 0 (.slice none 0 0) [] w.heap.size fM := CpAt.start2 hm _ _ zeroDom_size domM_size _
theorem fM_pc : fM 8 = .int .u32 0 := rfl
theorem fM_m : fM 91 = .int .i64 2 ∧ fM 92 = .int .i64 0 ∧ fM 93 = .int .i64 0 ∧ fM 94 = .int .i64 0 ∧ fM 95 = .int .u32 1 := ⟨rfl, rfl, rfl, rfl, rfl⟩
theorem fM_reg (j : Nat) (h : j < 8) : fM j = .int .u32 0 := by
  have h8 : j = 0 ∨ j = 1 ∨ j = 2 ∨ j = 3 ∨ j = 4 ∨ j = 5 ∨ j = 6 ∨ j = 7 := by omega
  rcases h8 with rfl | rfl | rfl | rfl | rfl | rfl | rfl | rfl <;> rfl
/-- Two pages by a node. -/
theorem way_two {a b : Shp} {W : Nat → Nat → Value} {W2 : Nat → Nat → Int} {zs : List Int} (h : M17 a b W W2 zs) (i x : Nat) (hi : i < 2) (hx : x < 32) : Way a b (upd (fun _ => false) 0 true) (fun _ => 0) W (upd (upd (fun _ => false) 0 true) 1 true) (fun _ => 0) 2 0 0 0 1 5 ((i * 32 + x : Nat) : Int) false [0] (i : Int) (x : Int) false 0 := by
  have hl : ∀ j : Nat, j < 2 → liveB a b (upd (fun _ => false) 0 true) (fun _ => 0) (upd (upd (fun _ => false) 0 true) 1 true) (fun _ => 0) 3 (j : Int) 0 = true := fun j hj => by
    have h2 : j = 0 ∨ j = 1 := by omega
    rcases h2 with rfl | rfl <;> simp [liveB, thereB, upd, h.bn]
  have h2 : i = 0 ∨ i = 1 := by omega
  rcases h2 with rfl | rfl
  · exact way_r0 (way_at 1 0 0 x 3 0 0 0 0 rfl (by decide) (by decide) (by simp) (by decide) rfl (by rw [h.an]; decide) rfl rfl (by decide) (by simpa using hx) h.k0 (.page (by decide) (by omega) (hl 0 (by decide)) (by omega))) (by decide)
  · exact way_r0 (way_at 1 0 1 x 3 1 0 0 0 rfl (by decide) (by decide) (by simp) (by decide) rfl (by rw [h.an]; decide) rfl rfl (by decide) (by simpa using hx) h.k1 (.page (by decide) (by omega) (hl 1 (by decide)) (by omega))) (by decide)
theorem way_to {a b : Shp} {W : Nat → Nat → Value} {W2 : Nat → Nat → Int} {zs : List Int} (h : M17 a b W W2 zs) (i x ad : Nat) (hi : i < 2) (hx : x < 32) (had : ad = i * 32 + x) : Way a b (upd (fun _ => false) 0 true) (fun _ => 0) W (upd (upd (fun _ => false) 0 true) 1 true) (fun _ => 0) 2 0 0 0 1 5 (ad : Int) false [0] (i : Int) (x : Int) false 0 := by
  subst had
  exact way_two h i x hi hx
theorem live_to (i : Nat) (hi : i < 2) : (upd (upd (fun _ => false) 0 true) 1 true) i = true := by
  have h2 : i = 0 ∨ i = 1 := by omega
  rcases h2 with rfl | rfl <;> rfl
theorem ru_nil (w : World) (a : Option Addr) : RU w a [] := fun j hj => by simp at hj
theorem ru_one (w : World) (x : Int) (T : TypeId) : RU (w.alloc (.cells #[.int .u32 x] T (0, 0))) (some ⟨w.heap.size, 0, none⟩) [x] := fun j hj => by
  have hj0 : j = 0 := by simp at hj; omega
  subst hj0
  exact ⟨_, rfl, by simp, by simp [Addr.add, List.getD]⟩
end Go.Proofs.YtjkbfhojjjkgnaaDoor
namespace Go.Proofs.YtjkbfhojjjkgnaaDoor
open Go.ChangeShapes Go.WideShapes Go.ChangeAt Go.RowKit
set_option linter.unusedVariables false
set_option linter.unusedSimpArgs false
set_option maxRecDepth 100000 in
set_option maxHeartbeats 4000000 in
theorem cfirst_is (vs vr : Value) (w : World) (hE : ErrsAt vs vr w) : Calls Tryd.prog 10 #[] w fun e w' => e = .returned (.bool true) ∧ Below w.heap.size w w' := by
  have HE := Lib.hid hE
  clear hE
  go_enter Tryd.func10, Tryd.ntmps10
  go_upto_region 4 with (first
    | (go_at_call 20; (with_reducible refine (made17_is none 0 0 [] (by decide) (Lib.hid rfl) vs vr _ HE.out (ru_nil _ _)).mono ?_); rintro e w1 ⟨mb, S, a, b, N, cb, x, W, W2, rfl, hm, hw⟩; have HM := Lib.hid hm; clear hm hw))
  generalize hB : World.alloc w1 _ = wB
  have HMB : Hid (MemAt w wB mb S a b N cb 4 (upd (fun _ => false) 0 true) (fun _ => 0) W (upd (upd (fun _ => false) 0 true) 1 true) (fun _ => 0) W2 0 (.slice none 0 0) []) := Lib.hid (by rw [← hB]; exact HM.out.below ((Below.refl _ _).alloc (Nat.le_refl _) _))
  clear hB HM
  go_upto_region 5 with (refine wpList_store_mid (by rfl) _ _ _ (by rfl) wB.heap.size 0 Tryd.zeroCells30 (by rfl) (by rfl) (there_new wB Tryd.zeroCells30 _ (by rfl) _) (by kernel_rfl) (by kernel_rfl) ?_)
  have HS : Hid (CpAt w _ mb S a b N cb (upd (fun _ => false) 0 true) (fun _ => 0) W (upd (upd (fun _ => false) 0 true) 1 true) (fun _ => 0) W2 0 (.slice none 0 0) [] wB.heap.size (fun j => Tryd.zeroCells30.getD j (.int .i64 0))) := Lib.hid (CpAt.start2 HMB.out Tryd.zeroCells30 Tryd.zeroCells30 (by kernel_rfl) (by kernel_rfl) 30)
  generalize hC : World.setCells (World.alloc wB _) _ _ _ = wC at HS ⊢
  clear hC
  have z8 : Tryd.zeroCells30.getD 8 (.int .i64 0) = .int .u32 0 := by kernel_rfl
  have z91 : Tryd.zeroCells30.getD 91 (.int .i64 0) = .int .i64 0 := by kernel_rfl
  have z92 : Tryd.zeroCells30.getD 92 (.int .i64 0) = .int .i64 0 := by kernel_rfl
  have z93 : Tryd.zeroCells30.getD 93 (.int .i64 0) = .int .i64 0 := by kernel_rfl
  have z94 : Tryd.zeroCells30.getD 94 (.int .i64 0) = .int .i64 0 := by kernel_rfl
  have z95 : Tryd.zeroCells30.getD 95 (.int .i64 0) = .int .u32 0 := by kernel_rfl
  go_upto_region 6 with (first
    | (go_at_call 21; (with_reducible refine (cstep_fault 0 0 0 0 0 0 0 (Lib.hid rfl) (by decide) [] 0 0 false 2 (by decide) z8 z91 z92 z93 z94 z95 (Lib.hid (by decide)) (Lib.hid (way_none 0)) _ HS.out).mono ?_); rintro e w2 ⟨rfl, hq⟩; have HQ := Lib.hid hq; clear hq)
    | (refine wpList_store_mid (by rfl) _ _ _ (by rfl) w2.heap.size 0 (evA 4 2 0) (by rfl) (by rfl) (there_new _ _ _ (by rfl) _) infoEv (evA_one _ _ _) ?_))
  generalize hE3 : World.setCells (World.alloc w2 _) _ _ _ = w3
  have R3 : Hid (w3.rangeAt w2.heap.size 0 (evA 4 2 0).toList) := Lib.hid (by rw [← hE3]; exact (evA_ok 4 2 0).stored (there_new _ _ _ rfl _))
  have B3 : Hid (Below w.heap.size w w3) := Lib.hid (by rw [← hE3]; have h := CQ.bel0 HQ.out; exact below_cells (h.alloc h.size _) h.size _ _)
  have e0 := (evA_ok 4 2 0).cell R3.out
  have e26 : w3.cell? ⟨w2.heap.size, 26, none⟩ = some (.int .i64 2) := R3.out 26 _ rfl
  clear hE3
  go_wp2_with fail
  go_ret
  exact ⟨rfl, B3.out⟩
end Go.Proofs.YtjkbfhojjjkgnaaDoor
