/-
  The texts of keys: lacks, Kind, turnkeyref1.KindName.
-/
import Derived.Test.YtggnaalcdekccaaDoorFmt
import Derived.Test.YtggnaalcdekccaaDoorKeyStart
import Derived.Test.YtggnaalcdekccaaDoorKeyWays
namespace Go.Proofs.YtggnaalcdekccaaDoor
open Go.ChangeShapes Go.WideShapes Go.ChangeAt Go.RowKit
set_option linter.unusedVariables false
def tRo : ByteArray := ⟨#[32, 114, 111]⟩
def tNo : ByteArray := ⟨#[32, 110, 111, 99, 97, 108, 108]⟩
def tWe : ByteArray := ⟨#[32, 119, 101, 97, 107]⟩
/-- What a key's rights add to its text. -/
def lackT (r : Int) : ByteArray := (if r % 2 = 1 then tRo else ⟨#[]⟩) ++ (if r / 2 % 2 = 1 then tNo else ⟨#[]⟩) ++ (if r / 4 % 2 = 1 then tWe else ⟨#[]⟩)
theorem ret_str {a b : ByteArray} (h : a = b) : Ending.returned (.string a) = .returned (.string b) := by rw [h]
theorem klacks_any (r : Int) (h0 : 0 ≤ r) (h7 : r ≤ 7) (w : World) : Calls Tryd.prog 54 #[.int .i64 r] w fun e w' => e = .returned (.string (lackT r)) ∧ w = w' := by
  obtain rfl | rfl | rfl | rfl | rfl | rfl | rfl | rfl : r = 0 ∨ r = 1 ∨ r = 2 ∨ r = 3 ∨ r = 4 ∨ r = 5 ∨ r = 6 ∨ r = 7 := by omega
  all_goals
    go_enter Tryd.func54, Tryd.ntmps54
    go_wp2
    go_ret
    exact ⟨ret_str (by decide +kernel), rfl⟩
def nmT (k : Int) : ByteArray := if 0 ≤ k ∧ k ≤ 14 then ⟨(knL.getD k.toNat []).toArray⟩ else ⟨#[]⟩
def Names (w : World) : Prop := 2 < w.heap.size ∧ ∀ j, j < 15 → w.cell? ⟨2, j, none⟩ = some (.string (⟨(knL.getD j []).toArray⟩))
theorem Names.below {w w' : World} (h : Names w) (hb : Below w.heap.size w w') : Names w' :=
  ⟨Nat.lt_of_lt_of_le h.1 hb.size, fun j hj => (hb.cell (p := ⟨2, j, none⟩) h.1).trans (h.2 j hj)⟩
theorem kkind_any (k : Int) (h1 : -9223372036854775808 ≤ k) (h2 : k ≤ 9223372036854775807) (w : World) (hN : Names w) : Calls Tryd.prog 34 #[.int .i64 k] w fun e w' => e = .returned (.string (nmT k)) ∧ w = w' := by
  by_cases hk : 0 ≤ k ∧ k ≤ 14
  · obtain ⟨j, rfl⟩ : ∃ j : Nat, k = j := ⟨k.toNat, by omega⟩
    have hj : j < 15 := by omega
    have hc := hN.2 j hj
    have e : nmT (j : Int) = ⟨(knL.getD j []).toArray⟩ := by unfold nmT; rw [if_pos hk]; simp
    have HE := Lib.hid e
    have HB := Lib.hid ((decide_eq_true hk : decide (0 ≤ (j : Int) ∧ (j : Int) ≤ 14) = true))
    clear e
    generalize (⟨(knL.getD j []).toArray⟩ : ByteArray) = s at hc HE
    go_enter Tryd.func34, Tryd.ntmps34
    go_wp2_with (first | (go_at_call 48; refine (kwithin_yes _ _ hk.1 hk.2 _).mono ?_; rintro e w1 ⟨rfl, rfl⟩))
    go_ret
    exact ⟨ret_str HE.out.symm, rfl⟩
  · have e : nmT k = ⟨#[]⟩ := by unfold nmT; rw [if_neg hk]
    have HE := Lib.hid e
    clear e
    go_enter Tryd.func34, Tryd.ntmps34
    go_wp2_with (first | (go_at_call 48; refine (kwithin_out _ _ (Lib.hid hk) _).mono ?_; rintro e w1 ⟨rfl, rfl⟩))
    go_ret
    exact ⟨ret_str HE.out.symm, rfl⟩
end Go.Proofs.YtggnaalcdekccaaDoor
