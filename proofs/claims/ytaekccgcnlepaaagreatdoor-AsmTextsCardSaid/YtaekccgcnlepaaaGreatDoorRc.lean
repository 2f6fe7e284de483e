/-
  turnkeyref1: shape, OpName, How.
-/
import Derived.Test.YtaekccgcnlepaaaGreatDoorRb
namespace Go.Proofs.YtaekccgcnlepaaaGreatDoor
open Go.ChangeShapes Go.WideShapes Go.ChangeAt Go.RowKit Go.Maps
set_option linter.unusedVariables false
set_option linter.unusedSimpArgs false
/-- The operands' kinds, as the document's program spells them. -/
def kdL : List (List UInt8) := [[], [114, 110], [114, 110], [114, 114, 114], [110], [114, 110], [114, 114, 110], [114, 114, 110], [107, 107], [107, 114], [114, 107], [107, 107], [], []]
theorem op_is : ∀ n : Fin 14, 1 ≤ n.val → opL (fNm.getD n.val []) = n.val := fun n _ => fn_op n
theorem op_none (l : List UInt8) (h : ∀ i, 1 ≤ i → i < 14 → fNm.getD i [] ≠ l) : opL l = 0 := by
  unfold opL
  by_cases h0 : l = []
  · subst h0; decide +kernel
  · rw [idx_no fNm l (fun i hi => by
      by_cases e : i = 0
      · subst e; exact fun e => h0 e.symm
      · exact h i (by omega) hi)]
    rfl
set_option maxRecDepth 100000 in
set_option maxHeartbeats 4000000 in
theorem rshape_is (s : ByteArray) (op : Nat) (h : Hid (opL s.data.toList = op)) (w : World) :
    Calls Tryz.prog 59 #[.string s] w fun e w' => e = .returned (.tuple #[.string ⟨(kdL.getD op []).toArray⟩, .int .i64 (op : Int)]) ∧ w = w' := by
  by_cases h1 : s.data.toList = [108, 105]
  · have e1 : (s.toList == [108, 105]) = true := by rw [Lib.toList_data, h1]; rfl
    obtain rfl : op = 1 := by rw [← h.out, h1]; decide +kernel
    clear h h1
    go_enter Tryz.func59, Tryz.ntmps59
    go_wp2_with fail
    go_ret2
    exact ⟨rfl, rfl⟩
  have e1 : (s.toList == [108, 105]) = false := by rw [Lib.toList_data, beq_eq_false_iff_ne]; exact h1
  by_cases h2 : s.data.toList = [108, 105, 104]
  · have e2 : (s.toList == [108, 105, 104]) = true := by rw [Lib.toList_data, h2]; rfl
    obtain rfl : op = 2 := by rw [← h.out, h2]; decide +kernel
    clear h h1 h2
    go_enter Tryz.func59, Tryz.ntmps59
    go_wp2_with fail
    go_ret2
    exact ⟨rfl, rfl⟩
  have e2 : (s.toList == [108, 105, 104]) = false := by rw [Lib.toList_data, beq_eq_false_iff_ne]; exact h2
  by_cases h3 : s.data.toList = [97, 108, 117]
  · have e3 : (s.toList == [97, 108, 117]) = true := by rw [Lib.toList_data, h3]; rfl
    obtain rfl : op = 3 := by rw [← h.out, h3]; decide +kernel
    clear h h1 h2 h3
    go_enter Tryz.func59, Tryz.ntmps59
    go_wp2_with fail
    go_ret2
    exact ⟨rfl, rfl⟩
  have e3 : (s.toList == [97, 108, 117]) = false := by rw [Lib.toList_data, beq_eq_false_iff_ne]; exact h3
  by_cases h4 : s.data.toList = [106, 109, 112]
  · have e4 : (s.toList == [106, 109, 112]) = true := by rw [Lib.toList_data, h4]; rfl
    obtain rfl : op = 4 := by rw [← h.out, h4]; decide +kernel
    clear h h1 h2 h3 h4
    go_enter Tryz.func59, Tryz.ntmps59
    go_wp2_with fail
    go_ret2
    exact ⟨rfl, rfl⟩
  have e4 : (s.toList == [106, 109, 112]) = false := by rw [Lib.toList_data, beq_eq_false_iff_ne]; exact h4
  by_cases h5 : s.data.toList = [106, 122]
  · have e5 : (s.toList == [106, 122]) = true := by rw [Lib.toList_data, h5]; rfl
    obtain rfl : op = 5 := by rw [← h.out, h5]; decide +kernel
    clear h h1 h2 h3 h4 h5
    go_enter Tryz.func59, Tryz.ntmps59
    go_wp2_with fail
    go_ret2
    exact ⟨rfl, rfl⟩
  have e5 : (s.toList == [106, 122]) = false := by rw [Lib.toList_data, beq_eq_false_iff_ne]; exact h5
  by_cases h6 : s.data.toList = [108, 111, 97, 100]
  · have e6 : (s.toList == [108, 111, 97, 100]) = true := by rw [Lib.toList_data, h6]; rfl
    obtain rfl : op = 6 := by rw [← h.out, h6]; decide +kernel
    clear h h1 h2 h3 h4 h5 h6
    go_enter Tryz.func59, Tryz.ntmps59
    go_wp2_with fail
    go_ret2
    exact ⟨rfl, rfl⟩
  have e6 : (s.toList == [108, 111, 97, 100]) = false := by rw [Lib.toList_data, beq_eq_false_iff_ne]; exact h6
  by_cases h7 : s.data.toList = [115, 97, 118, 101]
  · have e7 : (s.toList == [115, 97, 118, 101]) = true := by rw [Lib.toList_data, h7]; rfl
    obtain rfl : op = 7 := by rw [← h.out, h7]; decide +kernel
    clear h h1 h2 h3 h4 h5 h6 h7
    go_enter Tryz.func59, Tryz.ntmps59
    go_wp2_with fail
    go_ret2
    exact ⟨rfl, rfl⟩
  have e7 : (s.toList == [115, 97, 118, 101]) = false := by rw [Lib.toList_data, beq_eq_false_iff_ne]; exact h7
  by_cases h8 : s.data.toList = [107, 109, 111, 118, 101]
  · have e8 : (s.toList == [107, 109, 111, 118, 101]) = true := by rw [Lib.toList_data, h8]; rfl
    obtain rfl : op = 8 := by rw [← h.out, h8]; decide +kernel
    clear h h1 h2 h3 h4 h5 h6 h7 h8
    go_enter Tryz.func59, Tryz.ntmps59
    go_wp2_with fail
    go_ret2
    exact ⟨rfl, rfl⟩
  have e8 : (s.toList == [107, 109, 111, 118, 101]) = false := by rw [Lib.toList_data, beq_eq_false_iff_ne]; exact h8
  by_cases h9 : s.data.toList = [107, 110, 117, 109]
  · have e9 : (s.toList == [107, 110, 117, 109]) = true := by rw [Lib.toList_data, h9]; rfl
    obtain rfl : op = 9 := by rw [← h.out, h9]; decide +kernel
    clear h h1 h2 h3 h4 h5 h6 h7 h8 h9
    go_enter Tryz.func59, Tryz.ntmps59
    go_wp2_with fail
    go_ret2
    exact ⟨rfl, rfl⟩
  have e9 : (s.toList == [107, 110, 117, 109]) = false := by rw [Lib.toList_data, beq_eq_false_iff_ne]; exact h9
  by_cases h10 : s.data.toList = [107, 103, 101, 116]
  · have e10 : (s.toList == [107, 103, 101, 116]) = true := by rw [Lib.toList_data, h10]; rfl
    obtain rfl : op = 10 := by rw [← h.out, h10]; decide +kernel
    clear h h1 h2 h3 h4 h5 h6 h7 h8 h9 h10
    go_enter Tryz.func59, Tryz.ntmps59
    go_wp2_with fail
    go_ret2
    exact ⟨rfl, rfl⟩
  have e10 : (s.toList == [107, 103, 101, 116]) = false := by rw [Lib.toList_data, beq_eq_false_iff_ne]; exact h10
  by_cases h11 : s.data.toList = [105, 110, 118]
  · have e11 : (s.toList == [105, 110, 118]) = true := by rw [Lib.toList_data, h11]; rfl
    obtain rfl : op = 11 := by rw [← h.out, h11]; decide +kernel
    clear h h1 h2 h3 h4 h5 h6 h7 h8 h9 h10 h11
    go_enter Tryz.func59, Tryz.ntmps59
    go_wp2_with fail
    go_ret2
    exact ⟨rfl, rfl⟩
  have e11 : (s.toList == [105, 110, 118]) = false := by rw [Lib.toList_data, beq_eq_false_iff_ne]; exact h11
  by_cases h12 : s.data.toList = [121, 105, 101, 108, 100]
  · have e12 : (s.toList == [121, 105, 101, 108, 100]) = true := by rw [Lib.toList_data, h12]; rfl
    obtain rfl : op = 12 := by rw [← h.out, h12]; decide +kernel
    clear h h1 h2 h3 h4 h5 h6 h7 h8 h9 h10 h11 h12
    go_enter Tryz.func59, Tryz.ntmps59
    go_wp2_with fail
    go_ret2
    exact ⟨rfl, rfl⟩
  have e12 : (s.toList == [121, 105, 101, 108, 100]) = false := by rw [Lib.toList_data, beq_eq_false_iff_ne]; exact h12
  by_cases h13 : s.data.toList = [104, 97, 108, 116]
  · have e13 : (s.toList == [104, 97, 108, 116]) = true := by rw [Lib.toList_data, h13]; rfl
    obtain rfl : op = 13 := by rw [← h.out, h13]; decide +kernel
    clear h h1 h2 h3 h4 h5 h6 h7 h8 h9 h10 h11 h12 h13
    go_enter Tryz.func59, Tryz.ntmps59
    go_wp2_with fail
    go_ret2
    exact ⟨rfl, rfl⟩
  have e13 : (s.toList == [104, 97, 108, 116]) = false := by rw [Lib.toList_data, beq_eq_false_iff_ne]; exact h13
  obtain rfl : op = 0 := by
    rw [← h.out]
    refine op_none _ (fun i ha hb e => ?_)
    rcases (show i = 1 ∨ i = 2 ∨ i = 3 ∨ i = 4 ∨ i = 5 ∨ i = 6 ∨ i = 7 ∨ i = 8 ∨ i = 9 ∨ i = 10 ∨ i = 11 ∨ i = 12 ∨ i = 13 by omega) with rfl | rfl | rfl | rfl | rfl | rfl | rfl | rfl | rfl | rfl | rfl | rfl | rfl
    · exact h1 e.symm
    · exact h2 e.symm
    · exact h3 e.symm
    · exact h4 e.symm
    · exact h5 e.symm
    · exact h6 e.symm
    · exact h7 e.symm
    · exact h8 e.symm
    · exact h9 e.symm
    · exact h10 e.symm
    · exact h11 e.symm
    · exact h12 e.symm
    · exact h13 e.symm
  clear h h1 h2 h3 h4 h5 h6 h7 h8 h9 h10 h11 h12 h13
  go_enter Tryz.func59, Tryz.ntmps59
  go_wp2_with fail
  go_ret2
  exact ⟨rfl, rfl⟩
set_option maxRecDepth 100000 in
set_option maxHeartbeats 4000000 in
theorem ropname_is (n : Nat) (hn : n < 12) (s : ByteArray) (hs : Hid ((⟨(wNm.getD n []).toArray⟩ : ByteArray) = s)) (w : World) :
    Calls Tryz.prog 48 #[.int .i64 (n : Int)] w fun e w' => e = .returned (.string s) ∧ Below w.heap.size w w' := by
  have hh := hs.out
  rcases (show n = 0 ∨ n = 1 ∨ n = 2 ∨ n = 3 ∨ n = 4 ∨ n = 5 ∨ n = 6 ∨ n = 7 ∨ n = 8 ∨ n = 9 ∨ n = 10 ∨ n = 11 by omega) with rfl | rfl | rfl | rfl | rfl | rfl | rfl | rfl | rfl | rfl | rfl | rfl
  all_goals
    subst hh
    clear hs
    go_enter Tryz.func48, Tryz.ntmps48
    go_wp2_with fail
    go_ret
    exact ⟨rfl, (Below.refl _ _).alloc (Nat.le_refl _) _⟩
def howS (n : Nat) : ByteArray := if n < 3 then ⟨(mNm.getD n []).toArray⟩ else ⟨#[]⟩
set_option maxRecDepth 100000 in
set_option maxHeartbeats 4000000 in
theorem rhow_is (n : Nat) (hn : n < 12) (s : ByteArray) (hs : Hid (howS n = s)) (w : World) :
    Calls Tryz.prog 50 #[.int .i64 (n : Int)] w fun e w' => e = .returned (.string s) ∧ Below w.heap.size w w' := by
  have hh := hs.out
  unfold howS at hh
  rcases (show n = 0 ∨ n = 1 ∨ n = 2 ∨ 3 ≤ n by omega) with rfl | rfl | rfl | h3
  iterate 3
    · rw [if_pos (by decide)] at hh
      subst hh
      clear hs
      go_enter Tryz.func50, Tryz.ntmps50
      go_wp2_with fail
      go_ret
      exact ⟨rfl, (Below.refl _ _).alloc (Nat.le_refl _) _⟩
  · rw [if_neg (by omega)] at hh
    subst hh
    have d1 : decide ((n : Int) < 0) = false := decide_eq_false (by omega)
    have d2 : decide ((3 : Int) ≤ (n : Int)) = true := by simp; omega
    clear hs h3
    go_enter Tryz.func50, Tryz.ntmps50
    go_wp2_with fail
    go_ret
    exact ⟨rfl, (Below.refl _ _).alloc (Nat.le_refl _) _⟩
end Go.Proofs.YtaekccgcnlepaaaGreatDoor
