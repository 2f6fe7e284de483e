import Derived.Test.YtpfggggoidfffaaRows
import Derived.WalkKit
import Derived.ProofKit
import Derived.OpenShut
import Derived.Outline
import Derived.WalkLawsBesides
import Derived.WalkSpells
import Derived.Lib.Hide
namespace Go.Proofs.Ytpfggggoidfffaa
open Go.ChangeShapes Go.WideShapes Go.ChangeAt Go.RowKit
set_option linter.unusedVariables false

def doV (op a b : Int) : Int :=
  if op = 0 then (a + b) % 4294967296
  else if op = 1 then (a - b) % 4294967296
  else if op = 2 then a * b % 4294967296
  else if op = 3 then (if b = 0 then 0 else a / b)
  else if op = 4 then (if b = 0 then 0 else a % b)
  else if op = 5 then bits BinOp.and IntKind.u32 a b
  else if op = 6 then bits BinOp.or IntKind.u32 a b
  else if op = 7 then bits BinOp.xor IntKind.u32 a b
  else if op = 8 then a * 2 ^ min b.toNat 32 % 4294967296
  else if op = 9 then a / 2 ^ min b.toNat 32
  else if op = 10 then (if a < b then 1 else 0)
  else if op = 11 then (if a = b then 1 else 0)
  else 0
def doB (op : Int) : Bool := decide (0 ≤ op ∧ op ≤ 11)

structure Fit (a : Int) : Prop where
  lo : 0 ≤ a
  hi : a ≤ 4294967295

def DoPost (op a b : Int) (w : World) (e : Ending) (w' : World) : Prop := e = .returned (.tuple #[.int .u32 (doV op a b), .bool (doB op)]) ∧ w = w'

theorem DoPost.mk (op a b : Int) (w : World) (x : Int) (t : Bool) (hx : doV op a b = x) (ht : doB op = t) : DoPost op a b w (.returned (.tuple #[.int .u32 x, .bool t])) w := by
  unfold DoPost; rw [hx, ht]; exact ⟨rfl, rfl⟩

theorem do_3 (a b : Int) (w : World) (ha0 : 0 ≤ a) (ha1 : a ≤ 4294967295) (hb0 : 0 ≤ b) (hb1 : b ≤ 4294967295) :
    Calls Try.prog 7 #[.int .i64 3, .int .u32 a, .int .u32 b] w (DoPost 3 a b w) := by
  by_cases h : b = 0
  · subst h
    go_enter Try.func7, Try.ntmps7; go_wp2; go_ret2
    exact DoPost.mk 3 _ _ _ _ _ (by simp [doV]) rfl
  · have hv : doV 3 a b = a / b := by simp [doV, h]
    go_enter Try.func7, Try.ntmps7; go_wp2; go_ret2
    exact DoPost.mk 3 _ _ _ _ _ hv rfl
theorem do_4 (a b : Int) (w : World) (ha0 : 0 ≤ a) (ha1 : a ≤ 4294967295) (hb0 : 0 ≤ b) (hb1 : b ≤ 4294967295) :
    Calls Try.prog 7 #[.int .i64 4, .int .u32 a, .int .u32 b] w (DoPost 4 a b w) := by
  by_cases h : b = 0
  · subst h
    go_enter Try.func7, Try.ntmps7; go_wp2; go_ret2
    exact DoPost.mk 4 _ _ _ _ _ (by simp [doV]) rfl
  · have hv : doV 4 a b = a % b := by simp [doV, h]
    go_enter Try.func7, Try.ntmps7; go_wp2; go_ret2
    exact DoPost.mk 4 _ _ _ _ _ hv rfl
theorem do_10 (a b : Int) (w : World) : Calls Try.prog 7 #[.int .i64 10, .int .u32 a, .int .u32 b] w (DoPost 10 a b w) := by
  by_cases h : a < b
  all_goals
    go_enter Try.func7, Try.ntmps7; go_wp2; go_ret2
    exact DoPost.mk 10 _ _ _ _ _ (by simp [doV]; omega) rfl
theorem do_11 (a b : Int) (w : World) : Calls Try.prog 7 #[.int .i64 11, .int .u32 a, .int .u32 b] w (DoPost 11 a b w) := by
  by_cases h : a = b
  · subst h
    go_enter Try.func7, Try.ntmps7; go_wp2; go_ret2
    exact DoPost.mk 11 _ _ _ _ _ (by simp [doV]) rfl
  · have h' : (a == b) = false := by simpa using h
    go_enter Try.func7, Try.ntmps7; go_wp2; go_ret2
    exact DoPost.mk 11 _ _ _ _ _ (by simp [doV, h]) rfl
theorem do_012 (op a b : Int) (h : op = 0 ∨ op = 1 ∨ op = 2 ∨ op = 5 ∨ op = 6 ∨ op = 7) (w : World) : Calls Try.prog 7 #[.int .i64 op, .int .u32 a, .int .u32 b] w (DoPost op a b w) := by
  rcases h with rfl | rfl | rfl | rfl | rfl | rfl
  all_goals
    go_enter Try.func7, Try.ntmps7; go_wp2; go_ret2
    exact DoPost.mk _ _ _ _ _ _ rfl rfl
theorem do_89 (op a b : Int) (h : op = 8 ∨ op = 9) (ha0 : 0 ≤ a) (ha1 : a ≤ 4294967295) (hb0 : 0 ≤ b) (hb1 : b ≤ 4294967295) (w : World) : Calls Try.prog 7 #[.int .i64 op, .int .u32 a, .int .u32 b] w (DoPost op a b w) := by
  rcases h with rfl | rfl
  all_goals
    go_enter Try.func7, Try.ntmps7; go_wp2; go_ret2
    exact DoPost.mk _ _ _ _ _ _ rfl rfl
theorem do_no (op a b : Int) (w : World) (h : doB op = false) : Calls Try.prog 7 #[.int .i64 op, .int .u32 a, .int .u32 b] w (DoPost op a b w) := by
  have h' : ¬ (0 ≤ op ∧ op ≤ 11) := by simpa [doB] using h
  have h0 : ¬ op = 0 := by omega
  have h1 : ¬ op = 1 := by omega
  have h2 : ¬ op = 2 := by omega
  have h3 : ¬ op = 3 := by omega
  have h4 : ¬ op = 4 := by omega
  have h5 : ¬ op = 5 := by omega
  have h6 : ¬ op = 6 := by omega
  have h7 : ¬ op = 7 := by omega
  have h8 : ¬ op = 8 := by omega
  have h9 : ¬ op = 9 := by omega
  have h10 : ¬ op = 10 := by omega
  have h11 : ¬ op = 11 := by omega
  have hv : doV op a b = 0 := by simp [doV, h0, h1, h2, h3, h4, h5, h6, h7, h8, h9, h10, h11]
  have H := Lib.hid h
  have HV := Lib.hid hv
  clear h h' hv
  go_enter Try.func7, Try.ntmps7; go_wp2; go_ret2
  exact DoPost.mk _ _ _ _ _ _ HV.out H.out
theorem do_any (op a b : Int) (ha : Fit a) (hb : Fit b) (w : World) : Calls Try.prog 7 #[.int .i64 op, .int .u32 a, .int .u32 b] w (DoPost op a b w) := by
  cases h : doB op with
  | false => exact do_no op a b w h
  | true =>
    have h' : 0 ≤ op ∧ op ≤ 11 := by simpa [doB] using h
    by_cases e3 : op = 3
    · subst e3; exact do_3 a b w ha.lo ha.hi hb.lo hb.hi
    by_cases e4 : op = 4
    · subst e4; exact do_4 a b w ha.lo ha.hi hb.lo hb.hi
    by_cases e10 : op = 10
    · subst e10; exact do_10 a b w
    by_cases e11 : op = 11
    · subst e11; exact do_11 a b w
    by_cases e8 : op = 8 ∨ op = 9
    · exact do_89 op a b e8 ha.lo ha.hi hb.lo hb.hi w
    exact do_012 op a b (by omega) w
theorem first_any (w : World) : Calls Try.prog 6 #[] w fun e w' => e = .returned (.bool true) ∧ w = w' := by
  have hv : doV 1 0 1 = 4294967295 := by decide
  have hb : doB 1 = true := by decide
  go_enter Try.func6, Try.ntmps6
  go_wp2_with (go_at_call 7; refine (do_any 1 0 1 ⟨by decide, by decide⟩ ⟨by decide, by decide⟩ _).mono ?_; rintro e w' ⟨rfl, rfl⟩)
  go_ret
  exact ⟨rfl, rfl⟩
end Go.Proofs.Ytpfggggoidfffaa
