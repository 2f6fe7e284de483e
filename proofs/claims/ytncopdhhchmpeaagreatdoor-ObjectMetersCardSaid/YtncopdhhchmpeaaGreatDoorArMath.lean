/-
  A row of places (there, version) as plain cells: two a place.
-/
import Derived.Test.YtncopdhhchmpeaaGreatDoorOpen
import Derived.Laws.OwnMore
namespace Go.Proofs.YtncopdhhchmpeaaGreatDoor
open Go.ChangeShapes Go.WideShapes Go.ChangeAt Go.RowKit
set_option linter.unusedVariables false
/-- The cells of n places. -/
def plc (th : Nat → Bool) (vr : Nat → Int) : Nat → List Value
  | 0 => []
  | n + 1 => plc th vr n ++ [.bool (th n), .int .i64 (vr n)]
theorem plc_len (th : Nat → Bool) (vr : Nat → Int) (n : Nat) : (plc th vr n).length = n * 2 := by
  induction n with
  | zero => rfl
  | succ n ih => simp [plc, ih]; omega
theorem plc_at0 (th : Nat → Bool) (vr : Nat → Int) (n i : Nat) (hi : i < n) : (plc th vr n)[i * 2]? = some (.bool (th i)) := by
  induction n with
  | zero => omega
  | succ n ih =>
    unfold plc
    by_cases h : i = n
    · subst h
      rw [List.getElem?_append_right (by rw [plc_len]; omega), plc_len]
      simp
    · rw [List.getElem?_append_left (by rw [plc_len]; omega)]
      exact ih (by omega)
theorem plc_at1 (th : Nat → Bool) (vr : Nat → Int) (n i : Nat) (hi : i < n) : (plc th vr n)[i * 2 + 1]? = some (.int .i64 (vr i)) := by
  induction n with
  | zero => omega
  | succ n ih =>
    unfold plc
    by_cases h : i = n
    · subst h
      rw [List.getElem?_append_right (by rw [plc_len]; omega), plc_len]
      simp
    · rw [List.getElem?_append_left (by rw [plc_len]; omega)]
      exact ih (by omega)
/-- One value of a function, another. -/
def upd {α : Type} (f : Nat → α) (i : Nat) (x : α) : Nat → α := fun j => if j = i then x else f j
theorem upd_at {α : Type} (f : Nat → α) (i : Nat) (x : α) : upd f i x i = x := by simp [upd]
theorem upd_other {α : Type} (f : Nat → α) (i j : Nat) (x : α) (h : j ≠ i) : upd f i x j = f j := by simp [upd, h]
theorem plc_congr {th th' : Nat → Bool} {vr vr' : Nat → Int} (n : Nat) (h1 : ∀ i, i < n → th i = th' i) (h2 : ∀ i, i < n → vr i = vr' i) : plc th vr n = plc th' vr' n := by
  induction n with
  | zero => rfl
  | succ n ih =>
    unfold plc
    rw [ih (fun i hi => h1 i (by omega)) (fun i hi => h2 i (by omega)), h1 n (by omega), h2 n (by omega)]
theorem plc_set0 (th : Nat → Bool) (vr : Nat → Int) (n i : Nat) (hi : i < n) (b : Bool) : (plc th vr n).set (i * 2) (.bool b) = plc (upd th i b) vr n := by
  induction n with
  | zero => omega
  | succ n ih =>
    unfold plc
    by_cases h : i = n
    · subst h
      rw [List.set_append_right _ _ (by rw [plc_len]; omega), plc_len, upd_at]
      rw [plc_congr (th := upd th i b) (th' := th) (vr' := vr) i (fun j hj => upd_other _ _ _ _ (by omega)) (fun _ _ => rfl)]
      simp
    · rw [List.set_append_left _ _ (by rw [plc_len]; omega), ih (by omega), upd_other _ _ _ _ (by omega)]
theorem plc_set1 (th : Nat → Bool) (vr : Nat → Int) (n i : Nat) (hi : i < n) (v : Int) : (plc th vr n).set (i * 2 + 1) (.int .i64 v) = plc th (upd vr i v) n := by
  induction n with
  | zero => omega
  | succ n ih =>
    unfold plc
    by_cases h : i = n
    · subst h
      rw [List.set_append_right _ _ (by rw [plc_len]; omega), plc_len, upd_at]
      rw [plc_congr (vr := upd vr i v) (vr' := vr) (th' := th) i (fun _ _ => rfl) (fun j hj => upd_other _ _ _ _ (by omega))]
      rw [show i * 2 + 1 - i * 2 = 1 by omega]
      rfl
    · rw [List.set_append_left _ _ (by rw [plc_len]; omega), ih (by omega), upd_other _ _ _ _ (by omega)]
/-- How many of n places a test holds of. -/
def cntB (P : Nat → Bool) : Nat → Nat
  | 0 => 0
  | n + 1 => cntB P n + (if P n = true then 1 else 0)
theorem cntB_le (P : Nat → Bool) (n : Nat) : cntB P n ≤ n := by
  induction n with
  | zero => exact Nat.le_refl _
  | succ n ih => unfold cntB; split <;> omega
theorem cntB_congr {P Q : Nat → Bool} (n : Nat) (h : ∀ i, i < n → P i = Q i) : cntB P n = cntB Q n := by
  induction n with
  | zero => rfl
  | succ n ih => unfold cntB; rw [ih (fun i hi => h i (by omega)), h n (by omega)]
theorem cntB_upd (P : Nat → Bool) (n i : Nat) (hi : i < n) (x : Bool) : cntB (upd P i x) n + (if P i = true then 1 else 0) = cntB P n + (if x = true then 1 else 0) := by
  induction n with
  | zero => omega
  | succ n ih =>
    unfold cntB
    by_cases h : i = n
    · subst h
      rw [upd_at, cntB_congr (P := upd P i x) (Q := P) i (fun j hj => upd_other _ _ _ _ (by omega))]
      omega
    · have := ih (by omega)
      rw [upd_other _ _ _ _ (by omega)]
      omega
/-- May a place be taken? -/
def freeB (th : Nat → Bool) (vr : Nat → Int) (i : Nat) : Bool := !th i && decide (vr i ≤ 1048575)
/-- The first place at which a test holds, if any. -/
theorem first_at (P : Nat → Bool) : ∀ n, (∀ i, i < n → P i = false) ∨ ∃ j, j < n ∧ P j = true ∧ ∀ i, i < j → P i = false
  | 0 => .inl fun i hi => absurd hi (by omega)
  | n + 1 => by
    rcases first_at P n with h | ⟨j, hj, h1, h2⟩
    · cases hn : P n
      · refine .inl fun i hi => ?_
        by_cases e : i = n
        · rw [e]; exact hn
        · exact h i (by omega)
      · exact .inr ⟨n, by omega, hn, h⟩
    · exact .inr ⟨j, by omega, h1, h2⟩
/-- Places just made: nobody there, version 0. -/
theorem plc_made (n : Nat) : (madeCells #[Value.bool false, Value.int .i64 0] (n * 2)).toList = plc (fun _ => false) (fun _ => 0) n := by
  apply List.ext_getElem?
  intro j
  by_cases hj : j < n * 2
  · have e : (madeCells #[Value.bool false, Value.int .i64 0] (n * 2)).toList[j]? = some ((#[Value.bool false, Value.int .i64 0] : Array Value)[j % 2]!) := by
      simp [madeCells, hj]
    rw [e]
    obtain ⟨i, hi⟩ : ∃ i, j = i * 2 ∨ j = i * 2 + 1 := ⟨j / 2, by omega⟩
    rcases hi with rfl | rfl
    · rw [plc_at0 _ _ n i (by omega), show i * 2 % 2 = 0 by omega]
      rfl
    · rw [plc_at1 _ _ n i (by omega), show (i * 2 + 1) % 2 = 1 by omega]
      rfl
  · rw [List.getElem?_eq_none (by simp [size_madeCells]; omega), List.getElem?_eq_none (by rw [plc_len]; omega)]
end Go.Proofs.YtncopdhhchmpeaaGreatDoor
