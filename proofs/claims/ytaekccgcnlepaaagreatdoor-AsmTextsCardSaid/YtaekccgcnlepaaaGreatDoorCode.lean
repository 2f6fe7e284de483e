/-
  package code: the forms, fits, Valid.
-/
import Derived.Test.YtaekccgcnlepaaaGreatDoorErrs
import Derived.Outline
import Derived.Deep.RegionWith
import Derived.Deep.RegionHeld3
import Derived.Deep.QuietTactic
import Derived.BigQuiet
import Derived.WalkLawsBesides
import Derived.WalkSpells
import Derived.Laws.BitsAllLaws
namespace Go.Proofs.YtaekccgcnlepaaaGreatDoor
open Go.ChangeShapes Go.WideShapes Go.ChangeAt Go.RowKit
set_option linter.unusedVariables false
theorem bcellC {W w1 : World} (hb : Below W.heap.size W w1) : (∀ b o, b < W.heap.size → w1.cell? ⟨b, o, none⟩ = W.cell? ⟨b, o, none⟩) ∧ (∀ b o, b < W.heap.size → w1.frozen? ⟨b, o, none⟩ = W.frozen? ⟨b, o, none⟩) :=
  ⟨fun b o h => hb.cell (p := ⟨b, o, none⟩) h, fun b o h => hb.frozen (p := ⟨b, o, none⟩) h⟩
theorem keep5C {W w' : World} {b : Nat} {k0 k1 k2 k3 k4 : Int} (h : b < W.heap.size ∧ W.cell? ⟨b, 0, none⟩ = some (.int .i64 k0) ∧ W.cell? ⟨b, 1, none⟩ = some (.int .i64 k1) ∧ W.cell? ⟨b, 2, none⟩ = some (.int .i64 k2) ∧ W.cell? ⟨b, 3, none⟩ = some (.int .i64 k3) ∧ W.cell? ⟨b, 4, none⟩ = some (.int .i64 k4)) (hb : Below W.heap.size W w') : b < w'.heap.size ∧ w'.cell? ⟨b, 0, none⟩ = some (.int .i64 k0) ∧ w'.cell? ⟨b, 1, none⟩ = some (.int .i64 k1) ∧ w'.cell? ⟨b, 2, none⟩ = some (.int .i64 k2) ∧ w'.cell? ⟨b, 3, none⟩ = some (.int .i64 k3) ∧ w'.cell? ⟨b, 4, none⟩ = some (.int .i64 k4) := by
  obtain ⟨h2, h3, h4, h5, h6, h7⟩ := h
  have hc := (bcellC hb).1
  have hz := hb.size
  exact ⟨by omega, by rw [hc _ _ h2]; exact h3, by rw [hc _ _ h2]; exact h4, by rw [hc _ _ h2]; exact h5, by rw [hc _ _ h2]; exact h6, by rw [hc _ _ h2]; exact h7⟩
/-- What a field of each kind may be at most. -/
def hiOf (f : Int) : Int := if f = 1 then 7 else if f = 2 then 15 else if f = 3 then 4095 else if f = 4 then 11 else if f = 5 then 2 else 0
theorem highest_any (f m : Int) (h : Hid (hiOf f = m)) (w : World) : Calls Tryz.prog 82 #[.int .i64 f] w fun e w' => e = .returned (.int .i64 m) ∧ w = w' := by
  by_cases h1 : f = 1 ∨ f = 2 ∨ f = 3 ∨ f = 4 ∨ f = 5
  · rcases h1 with rfl | rfl | rfl | rfl | rfl
    all_goals
      rw [← h.out]
      go_enter Tryz.func82, Tryz.ntmps82
      go_wp2
      go_ret
      exact ⟨rfl, rfl⟩
  · have e : m = 0 := by rw [← h.out]; unfold hiOf; repeat' split
                         all_goals omega
    subst e
    have b1 : (f == 1) = false := by simp; omega
    have b2 : (f == 2) = false := by simp; omega
    have b3 : (f == 3) = false := by simp; omega
    have b4 : (f == 4) = false := by simp; omega
    have b5 : (f == 5) = false := by simp; omega
    go_enter Tryz.func82, Tryz.ntmps82
    go_wp2
    go_ret
    exact ⟨rfl, rfl⟩
def fitB (n f : Int) : Bool := decide (0 ≤ n ∧ n ≤ hiOf f)
theorem fits_any (n f : Int) (b : Bool) (h : Hid (fitB n f = b)) (w : World) : Calls Tryz.prog 66 #[.int .i64 n, .int .i64 f] w fun e w' => e = .returned (.bool b) ∧ w = w' := by
  obtain ⟨m, hm⟩ : ∃ m, Hid (hiOf f = m) := ⟨_, Lib.hid rfl⟩
  have hb := h.out
  unfold fitB at hb
  rw [hm.out] at hb
  cases b
  · rw [decide_eq_false_iff_not] at hb
    by_cases h0 : 0 ≤ n
    · have d : decide (n ≤ m) = false := by rw [decide_eq_false_iff_not]; omega
      have d0 : decide (0 ≤ n) = true := by rw [decide_eq_true_iff]; exact h0
      clear hb
      go_enter Tryz.func66, Tryz.ntmps66
      go_wp2_with (first | (go_at_call 82; refine (highest_any f m hm _).mono ?_; rintro e w1 ⟨rfl, rfl⟩))
      go_ret
      exact ⟨rfl, rfl⟩
    · have d0 : decide (0 ≤ n) = false := by rw [decide_eq_false_iff_not]; exact h0
      clear hb
      go_enter Tryz.func66, Tryz.ntmps66
      go_wp2_with (first | (go_at_call 82; refine (highest_any f m hm _).mono ?_; rintro e w1 ⟨rfl, rfl⟩))
      go_ret
      exact ⟨rfl, rfl⟩
  · rw [decide_eq_true_iff] at hb
    have d : decide (n ≤ m) = true := by rw [decide_eq_true_iff]; omega
    have d0 : decide (0 ≤ n) = true := by rw [decide_eq_true_iff]; omega
    clear hb
    go_enter Tryz.func66, Tryz.ntmps66
    go_wp2_with (first | (go_at_call 82; refine (highest_any f m hm _).mono ?_; rintro e w1 ⟨rfl, rfl⟩))
    go_ret
    exact ⟨rfl, rfl⟩
/-- The forms, as the chapter's table has them: name, and what A, B, C, Imm are. -/
def fNm : List (List UInt8) := [[], [108, 105], [108, 105, 104], [97, 108, 117], [106, 109, 112], [106, 122], [108, 111, 97, 100], [115, 97, 118, 101], [107, 109, 111, 118, 101], [107, 110, 117, 109], [107, 103, 101, 116], [105, 110, 118], [121, 105, 101, 108, 100], [104, 97, 108, 116]]
def fA : List Int := [0, 1, 1, 1, 0, 1, 1, 1, 2, 2, 1, 5, 0, 0]
def fB : List Int := [0, 0, 0, 1, 0, 0, 1, 1, 2, 1, 2, 2, 0, 0]
def fC : List Int := [0, 0, 0, 1, 0, 0, 0, 0, 0, 0, 0, 2, 0, 0]
def fI : List Int := [0, 3, 3, 4, 3, 3, 3, 3, 0, 0, 0, 0, 0, 0]
def nmC (n : Nat) : ByteArray := ⟨(fNm.getD n []).toArray⟩
structure Forms (w : World) : Prop where
  lt : 1 < w.heap.size
  at0 : ∀ n, n < 14 → w.cell? ⟨1, n * 5, none⟩ = some (.string (nmC n))
  at1 : ∀ n, n < 14 → w.cell? ⟨1, n * 5 + 1, none⟩ = some (.int .i64 (fA.getD n 0))
  at2 : ∀ n, n < 14 → w.cell? ⟨1, n * 5 + 2, none⟩ = some (.int .i64 (fB.getD n 0))
  at3 : ∀ n, n < 14 → w.cell? ⟨1, n * 5 + 3, none⟩ = some (.int .i64 (fC.getD n 0))
  at4 : ∀ n, n < 14 → w.cell? ⟨1, n * 5 + 4, none⟩ = some (.int .i64 (fI.getD n 0))
theorem Forms.below {w w' : World} (h : Forms w) (hb : Below w.heap.size w w') : Forms w' :=
  ⟨Nat.lt_of_lt_of_le h.lt hb.size, fun n hn => (hb.cell (p := ⟨1, n * 5, none⟩) h.lt).trans (h.at0 n hn), fun n hn => (hb.cell (p := ⟨1, n * 5 + 1, none⟩) h.lt).trans (h.at1 n hn), fun n hn => (hb.cell (p := ⟨1, n * 5 + 2, none⟩) h.lt).trans (h.at2 n hn), fun n hn => (hb.cell (p := ⟨1, n * 5 + 3, none⟩) h.lt).trans (h.at3 n hn), fun n hn => (hb.cell (p := ⟨1, n * 5 + 4, none⟩) h.lt).trans (h.at4 n hn)⟩
/-- One form, with letters. -/
def FormAt (n : Nat) (s : ByteArray) (fa fb fc fi : Int) (w : World) : Prop := w.cell? ⟨1, n * 5, none⟩ = some (.string s) ∧ w.cell? ⟨1, n * 5 + 1, none⟩ = some (.int .i64 fa) ∧ w.cell? ⟨1, n * 5 + 2, none⟩ = some (.int .i64 fb) ∧ w.cell? ⟨1, n * 5 + 3, none⟩ = some (.int .i64 fc) ∧ w.cell? ⟨1, n * 5 + 4, none⟩ = some (.int .i64 fi)
theorem Forms.one {w : World} (h : Forms w) (n : Nat) (hn : n < 14) : FormAt n (nmC n) (fA.getD n 0) (fB.getD n 0) (fC.getD n 0) (fI.getD n 0) w := ⟨h.at0 n hn, h.at1 n hn, h.at2 n hn, h.at3 n hn, h.at4 n hn⟩
theorem FormAt.alloc {n : Nat} {s : ByteArray} {fa fb fc fi : Int} {w : World} (h : FormAt n s fa fb fc fi w) (hl : 1 < w.heap.size) (o : Obj) : FormAt n s fa fb fc fi (w.alloc o) := by
  unfold FormAt at *
  have e : ∀ j, (w.alloc o).cell? ⟨1, j, none⟩ = w.cell? ⟨1, j, none⟩ := fun j => World.cell?_alloc_lt w _ ⟨1, j, none⟩ hl
  simpa only [e] using h
set_option maxRecDepth 100000 in
theorem cvalid_ok (n : Nat) (hn1 : 1 ≤ n) (hn : n ≤ 13) (s : ByteArray) (fa fb fc fi : Int) (a b c i : Int) (w : World) (hl : 1 < w.heap.size) (hF : FormAt n s fa fb fc fi w) (ha : Hid (fitB a fa = true)) (hb : Hid (fitB b fb = true)) (hc : Hid (fitB c fc = true)) (hi : Hid (fitB i fi = true)) : Calls Tryz.prog 44 #[.agg #[.int .i64 n, .int .i64 a, .int .i64 b, .int .i64 c, .int .i64 i]] w fun e w' => e = .returned .nilIface ∧ Below w.heap.size w w' := by
  have hF' := hF.alloc hl (.cells #[.int .i64 n, .int .i64 a, .int .i64 b, .int .i64 c, .int .i64 i] 62); obtain ⟨q0, q1, q2, q3, q4⟩ := hF'; clear hF; have b1 : decide ((n : Int) < 1) = false := by { rw [decide_eq_false_iff_not]; omega }; have b2 : decide ((13 : Int) < (n : Int)) = false := by { rw [decide_eq_false_iff_not]; omega }
  go_enter Tryz.func44, Tryz.ntmps44
  go_wp2_with (first | (go_at_call 66; (with_reducible refine (fits_any a fa true ha _).mono ?_); rintro e w1 ⟨rfl, rfl⟩) | (go_at_call 66; (with_reducible refine (fits_any b fb true hb _).mono ?_); rintro e w1 ⟨rfl, rfl⟩) | (go_at_call 66; (with_reducible refine (fits_any c fc true hc _).mono ?_); rintro e w1 ⟨rfl, rfl⟩) | (go_at_call 66; (with_reducible refine (fits_any i fi true hi _).mono ?_); rintro e w1 ⟨rfl, rfl⟩))
  go_ret
  exact ⟨rfl, ((Below.refl _ _).alloc (Nat.le_refl _) _).alloc (by simp) _⟩
set_option maxRecDepth 100000 in
theorem cvalid_b0 (n : Nat) (hn1 : 1 ≤ n) (hn : n ≤ 13) (s : ByteArray) (fa fb fc fi : Int) (a b c i : Int) (w : World) (hl : 1 < w.heap.size) (hF : FormAt n s fa fb fc fi w) (v : Value) (hE : w.cell? ⟨5, 0, none⟩ = some v) (hEl : 5 < w.heap.size) (ha : Hid (fitB a fa = false)) : Calls Tryz.prog 44 #[.agg #[.int .i64 n, .int .i64 a, .int .i64 b, .int .i64 c, .int .i64 i]] w fun e w' => e = .returned v ∧ Below w.heap.size w w' := by
  have hF' := hF.alloc hl (.cells #[.int .i64 n, .int .i64 a, .int .i64 b, .int .i64 c, .int .i64 i] 62); obtain ⟨q0, q1, q2, q3, q4⟩ := hF'; clear hF; have b1 : decide ((n : Int) < 1) = false := by { rw [decide_eq_false_iff_not]; omega }; have b2 : decide ((13 : Int) < (n : Int)) = false := by { rw [decide_eq_false_iff_not]; omega }
  go_enter Tryz.func44, Tryz.ntmps44
  go_wp2_with (first | (go_at_call 66; (with_reducible refine (fits_any a fa false ha _).mono ?_); rintro e w1 ⟨rfl, rfl⟩))
  go_ret
  exact ⟨rfl, ((Below.refl _ _).alloc (Nat.le_refl _) _).alloc (by simp) _⟩
set_option maxRecDepth 100000 in
theorem cvalid_b1 (n : Nat) (hn1 : 1 ≤ n) (hn : n ≤ 13) (s : ByteArray) (fa fb fc fi : Int) (a b c i : Int) (w : World) (hl : 1 < w.heap.size) (hF : FormAt n s fa fb fc fi w) (v : Value) (hE : w.cell? ⟨5, 0, none⟩ = some v) (hEl : 5 < w.heap.size) (ha : Hid (fitB a fa = true)) (hb : Hid (fitB b fb = false)) : Calls Tryz.prog 44 #[.agg #[.int .i64 n, .int .i64 a, .int .i64 b, .int .i64 c, .int .i64 i]] w fun e w' => e = .returned v ∧ Below w.heap.size w w' := by
  have hF' := hF.alloc hl (.cells #[.int .i64 n, .int .i64 a, .int .i64 b, .int .i64 c, .int .i64 i] 62); obtain ⟨q0, q1, q2, q3, q4⟩ := hF'; clear hF; have b1 : decide ((n : Int) < 1) = false := by { rw [decide_eq_false_iff_not]; omega }; have b2 : decide ((13 : Int) < (n : Int)) = false := by { rw [decide_eq_false_iff_not]; omega }
  go_enter Tryz.func44, Tryz.ntmps44
  go_wp2_with (first | (go_at_call 66; (with_reducible refine (fits_any a fa true ha _).mono ?_); rintro e w1 ⟨rfl, rfl⟩) | (go_at_call 66; (with_reducible refine (fits_any b fb false hb _).mono ?_); rintro e w1 ⟨rfl, rfl⟩))
  go_ret
  exact ⟨rfl, ((Below.refl _ _).alloc (Nat.le_refl _) _).alloc (by simp) _⟩
set_option maxRecDepth 100000 in
theorem cvalid_b2 (n : Nat) (hn1 : 1 ≤ n) (hn : n ≤ 13) (s : ByteArray) (fa fb fc fi : Int) (a b c i : Int) (w : World) (hl : 1 < w.heap.size) (hF : FormAt n s fa fb fc fi w) (v : Value) (hE : w.cell? ⟨5, 0, none⟩ = some v) (hEl : 5 < w.heap.size) (ha : Hid (fitB a fa = true)) (hb : Hid (fitB b fb = true)) (hc : Hid (fitB c fc = false)) : Calls Tryz.prog 44 #[.agg #[.int .i64 n, .int .i64 a, .int .i64 b, .int .i64 c, .int .i64 i]] w fun e w' => e = .returned v ∧ Below w.heap.size w w' := by
  have hF' := hF.alloc hl (.cells #[.int .i64 n, .int .i64 a, .int .i64 b, .int .i64 c, .int .i64 i] 62); obtain ⟨q0, q1, q2, q3, q4⟩ := hF'; clear hF; have b1 : decide ((n : Int) < 1) = false := by { rw [decide_eq_false_iff_not]; omega }; have b2 : decide ((13 : Int) < (n : Int)) = false := by { rw [decide_eq_false_iff_not]; omega }
  go_enter Tryz.func44, Tryz.ntmps44
  go_wp2_with (first | (go_at_call 66; (with_reducible refine (fits_any a fa true ha _).mono ?_); rintro e w1 ⟨rfl, rfl⟩) | (go_at_call 66; (with_reducible refine (fits_any b fb true hb _).mono ?_); rintro e w1 ⟨rfl, rfl⟩) | (go_at_call 66; (with_reducible refine (fits_any c fc false hc _).mono ?_); rintro e w1 ⟨rfl, rfl⟩))
  go_ret
  exact ⟨rfl, ((Below.refl _ _).alloc (Nat.le_refl _) _).alloc (by simp) _⟩
set_option maxRecDepth 100000 in
theorem cvalid_b3 (n : Nat) (hn1 : 1 ≤ n) (hn : n ≤ 13) (s : ByteArray) (fa fb fc fi : Int) (a b c i : Int) (w : World) (hl : 1 < w.heap.size) (hF : FormAt n s fa fb fc fi w) (v : Value) (hE : w.cell? ⟨5, 0, none⟩ = some v) (hEl : 5 < w.heap.size) (ha : Hid (fitB a fa = true)) (hb : Hid (fitB b fb = true)) (hc : Hid (fitB c fc = true)) (hi : Hid (fitB i fi = false)) : Calls Tryz.prog 44 #[.agg #[.int .i64 n, .int .i64 a, .int .i64 b, .int .i64 c, .int .i64 i]] w fun e w' => e = .returned v ∧ Below w.heap.size w w' := by
  have hF' := hF.alloc hl (.cells #[.int .i64 n, .int .i64 a, .int .i64 b, .int .i64 c, .int .i64 i] 62); obtain ⟨q0, q1, q2, q3, q4⟩ := hF'; clear hF; have b1 : decide ((n : Int) < 1) = false := by { rw [decide_eq_false_iff_not]; omega }; have b2 : decide ((13 : Int) < (n : Int)) = false := by { rw [decide_eq_false_iff_not]; omega }
  go_enter Tryz.func44, Tryz.ntmps44
  go_wp2_with (first | (go_at_call 66; (with_reducible refine (fits_any a fa true ha _).mono ?_); rintro e w1 ⟨rfl, rfl⟩) | (go_at_call 66; (with_reducible refine (fits_any b fb true hb _).mono ?_); rintro e w1 ⟨rfl, rfl⟩) | (go_at_call 66; (with_reducible refine (fits_any c fc true hc _).mono ?_); rintro e w1 ⟨rfl, rfl⟩) | (go_at_call 66; (with_reducible refine (fits_any i fi false hi _).mono ?_); rintro e w1 ⟨rfl, rfl⟩))
  go_ret
  exact ⟨rfl, ((Below.refl _ _).alloc (Nat.le_refl _) _).alloc (by simp) _⟩
theorem cvalid_word (op a b c i : Int) (w : World) (v : Value) (hE : w.cell? ⟨4, 0, none⟩ = some v) (hEl : 4 < w.heap.size) (ho : op < 1 ∨ 13 < op) :
    Calls Tryz.prog 44 #[.agg #[.int .i64 op, .int .i64 a, .int .i64 b, .int .i64 c, .int .i64 i]] w fun e w' => e = .returned v ∧ Below w.heap.size w w' := by
  by_cases h1 : op < 1
  · have b1 : decide (op < 1) = true := by rw [decide_eq_true_iff]; exact h1
    clear ho
    go_enter Tryz.func44, Tryz.ntmps44
    go_wp2
    go_ret
    exact ⟨rfl, (Below.refl _ _).alloc (Nat.le_refl _) _⟩
  · have h2 : 13 < op := by omega
    have b1 : decide (op < 1) = false := by rw [decide_eq_false_iff_not]; exact h1
    have b2 : decide (13 < op) = true := by rw [decide_eq_true_iff]; exact h2
    clear ho
    go_enter Tryz.func44, Tryz.ntmps44
    go_wp2
    go_ret
    exact ⟨rfl, (Below.refl _ _).alloc (Nat.le_refl _) _⟩
/-- May this be an instruction? -/
def okB (op a b c i : Int) : Bool := decide (1 ≤ op ∧ op ≤ 13) && (fitB a (fA.getD op.toNat 0) && (fitB b (fB.getD op.toNat 0) && (fitB c (fC.getD op.toNat 0) && fitB i (fI.getD op.toNat 0))))
/-- What the program says of an instruction: nothing, or which error. -/
def cErr (vw vr : Value) (op a b c i : Int) : Value := if okB op a b c i = true then .nilIface else if decide (1 ≤ op ∧ op ≤ 13) = true then vr else vw
structure CodeAt (vw vr : Value) (w : World) : Prop where
  forms : Forms w
  word : w.cell? ⟨4, 0, none⟩ = some vw
  wordLt : 4 < w.heap.size
  range : w.cell? ⟨5, 0, none⟩ = some vr
  rangeLt : 5 < w.heap.size
theorem CodeAt.below {vw vr : Value} {w w' : World} (h : CodeAt vw vr w) (hb : Below w.heap.size w w') : CodeAt vw vr w' :=
  ⟨h.forms.below hb, (hb.cell (p := ⟨4, 0, none⟩) h.wordLt).trans h.word, Nat.lt_of_lt_of_le h.wordLt hb.size, (hb.cell (p := ⟨5, 0, none⟩) h.rangeLt).trans h.range, Nat.lt_of_lt_of_le h.rangeLt hb.size⟩
theorem cvalid_any (op a b c i : Int) (vw vr : Value) (w : World) (hC : CodeAt vw vr w) :
    Calls Tryz.prog 44 #[.agg #[.int .i64 op, .int .i64 a, .int .i64 b, .int .i64 c, .int .i64 i]] w fun e w' => e = .returned (cErr vw vr op a b c i) ∧ Below w.heap.size w w' := by
  by_cases h0 : 1 ≤ op ∧ op ≤ 13
  rotate_left
  · have e : cErr vw vr op a b c i = vw := by
      have : okB op a b c i = false := by simp only [okB, decide_eq_false h0]; rfl
      simp only [cErr, this, decide_eq_false h0]; rfl
    rw [e]
    exact cvalid_word op a b c i w vw hC.word hC.wordLt (by omega)
  obtain ⟨n, rfl⟩ : ∃ n : Nat, op = n := ⟨op.toNat, by omega⟩
  have hF := hC.forms.one n (by omega)
  have d0 := decide_eq_true h0
  have hok : okB n a b c i = (fitB a (fA.getD n 0) && (fitB b (fB.getD n 0) && (fitB c (fC.getD n 0) && fitB i (fI.getD n 0)))) := by
    simp only [okB, d0, Int.toNat_natCast, Bool.true_and]
  have hE : ∀ t, okB n a b c i = t → cErr vw vr n a b c i = if t = true then .nilIface else vr := by
    intro t ht
    simp only [cErr, ht, d0]
    simp
  cases h1 : fitB a (fA.getD n 0)
  · rw [hE false (by rw [hok, h1]; rfl)]
    exact cvalid_b0 n (by omega) (by omega) _ _ _ _ _ a b c i w hC.forms.lt hF vr hC.range hC.rangeLt (Lib.hid h1)
  cases h2 : fitB b (fB.getD n 0)
  · rw [hE false (by rw [hok, h1, h2]; rfl)]
    exact cvalid_b1 n (by omega) (by omega) _ _ _ _ _ a b c i w hC.forms.lt hF vr hC.range hC.rangeLt (Lib.hid h1) (Lib.hid h2)
  cases h3 : fitB c (fC.getD n 0)
  · rw [hE false (by rw [hok, h1, h2, h3]; rfl)]
    exact cvalid_b2 n (by omega) (by omega) _ _ _ _ _ a b c i w hC.forms.lt hF vr hC.range hC.rangeLt (Lib.hid h1) (Lib.hid h2) (Lib.hid h3)
  cases h4 : fitB i (fI.getD n 0)
  · rw [hE false (by rw [hok, h1, h2, h3, h4]; rfl)]
    exact cvalid_b3 n (by omega) (by omega) _ _ _ _ _ a b c i w hC.forms.lt hF vr hC.range hC.rangeLt (Lib.hid h1) (Lib.hid h2) (Lib.hid h3) (Lib.hid h4)
  · rw [hE true (by rw [hok, h1, h2, h3, h4]; rfl)]
    exact cvalid_ok n (by omega) (by omega) _ _ _ _ _ a b c i w hC.forms.lt hF (Lib.hid h1) (Lib.hid h2) (Lib.hid h3) (Lib.hid h4)
abbrev errC (a : Addr) : Value := .iface 153 (.pointer (some a))
/-- A right instruction: nothing. -/
theorem cvalid_yes (op a b c i : Int) (vw vr : Value) (h : Hid (okB op a b c i = true)) (w : World) (hC : CodeAt vw vr w) :
    Calls Tryz.prog 44 #[.agg #[.int .i64 op, .int .i64 a, .int .i64 b, .int .i64 c, .int .i64 i]] w fun e w' => e = .returned .nilIface ∧ Below w.heap.size w w' := by
  have := cvalid_any op a b c i vw vr w hC
  have e : cErr vw vr op a b c i = .nilIface := by simp [cErr, h.out]
  rwa [e] at this
/-- One that is none: which error. -/
theorem cvalid_no (op a b c i : Int) (x y z : Addr) (hz : Hid ((if decide (1 ≤ op ∧ op ≤ 13) = true then y else x) = z)) (h : Hid (okB op a b c i = false)) (w : World) (hC : CodeAt (errC x) (errC y) w) :
    Calls Tryz.prog 44 #[.agg #[.int .i64 op, .int .i64 a, .int .i64 b, .int .i64 c, .int .i64 i]] w fun e w' => e = .returned (errC z) ∧ Below w.heap.size w w' := by
  refine (cvalid_any op a b c i _ _ w hC).mono fun e w' ⟨he, hb⟩ => ⟨?_, hb⟩
  rw [he, ← hz.out]
  unfold cErr
  rw [h.out, if_neg (by decide)]
  split <;> rfl
end Go.Proofs.YtaekccgcnlepaaaGreatDoor
