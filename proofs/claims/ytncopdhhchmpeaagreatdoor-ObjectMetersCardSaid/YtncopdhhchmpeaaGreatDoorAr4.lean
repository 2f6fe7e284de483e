/-
  package arena: New, Copy.
-/
import Derived.Test.YtncopdhhchmpeaaGreatDoorAr3
import Derived.OwnWalk
namespace Go.Proofs.YtncopdhhchmpeaaGreatDoor
open Go.ChangeShapes Go.WideShapes Go.ChangeAt Go.RowKit
set_option linter.unusedVariables false
theorem infoPlace : (Tryz.prog.info? 173).map (fun i => (i.zero, i.size, i.bytes)) = some (some (.agg #[.bool false, .int .i64 0]), 2, 16) := by kernel_rfl
set_option maxRecDepth 100000 in
theorem anew_ok (n : Nat) (h1 : 1 ≤ n) (h2 : n ≤ 256) (w : World) :
    Calls Tryz.prog 127 #[.int .i64 n] w fun e w' => ∃ p B, e = .returned (.tuple #[.pointer (some ⟨p, 0, none⟩), .nilIface]) ∧ ArAt w' w.heap.size p B n n (fun _ => false) (fun _ => 0) ∧ Below w.heap.size w w' := by
  obtain ⟨i0, hi, hz0, hz1, hz2⟩ := info_parts infoPlace
  have HI := Lib.hid (⟨hi, hz0, hz1, hz2⟩ : Tryz.prog.info? 173 = some i0 ∧ i0.zero = some (.agg #[.bool false, .int .i64 0]) ∧ i0.size = 2 ∧ i0.bytes = 16)
  clear hi hz0 hz1 hz2
  have d1 : decide ((n : Int) < 1) = false := by simp; omega
  have d2 : decide ((256 : Int) < (n : Int)) = false := by simp; omega
  go_enter Tryz.func127, Tryz.ntmps127
  go_wp2_with (first | (at_make; refine wpList_make_full _ rfl _ _ 174 rfl w.heap.size 173 i0 (.agg #[.bool false, .int .i64 0]) 2 Tryz.underlying174 HI.out.1 HI.out.2.1 HI.out.2.2.1 .i64 .i64 _ _ n rfl rfl rfl rfl ?b2 ?b3 ?b4 ?_))
  case b2 => rw [HI.out.2.2.2]; omega
  case b3 => unfold maxLen; omega
  case b4 => exact Nat.le_refl _
  intro w1 hown hgrow
  have hb1 : Below w.heap.size w w1 := (Below.refl _ _).grown hgrow (Nat.le_refl _) (fun k hk => by cases hk)
  have hlt := (hown.lt w.heap.size rfl).2
  have HO : Hid (w1.ownsRow w.heap.size 173 2 (.slice (some ⟨w.heap.size, 0, none⟩) n n) n (plc (fun _ => false) (fun _ => 0) n)) := Lib.hid (by rw [← plc_made]; exact hown)
  have HB := Lib.hid hb1
  clear hown hgrow hb1
  go_wp2_with fail
  go_ret2
  exact ⟨_, _, rfl, ⟨by simp, by omega, by simp, HO.out.alloc _, by omega, h2⟩, HB.out.alloc HB.out.size _⟩
theorem anew_no (n : Int) (h : ¬ (1 ≤ n ∧ n ≤ 256)) (w : World) (v : Value) (hE : w.cell? ⟨1, 0, none⟩ = some v) :
    Calls Tryz.prog 127 #[.int .i64 n] w fun e w' => e = .returned (.tuple #[.pointer none, v]) ∧ Below w.heap.size w w' := by
  by_cases h1 : n < 1
  · have d1 : decide (n < 1) = true := decide_eq_true h1
    clear h h1
    go_enter Tryz.func127, Tryz.ntmps127
    go_wp2_with fail
    go_quiet (fail)
    go_wp2_with fail
    go_ret2
    exact ⟨rfl, below_drewN (Below.refl _ _) _⟩
  · have d1 : decide (n < 1) = false := decide_eq_false h1
    have d2 : decide (256 < n) = true := decide_eq_true (by omega)
    clear h h1
    go_enter Tryz.func127, Tryz.ntmps127
    go_wp2_with fail
    go_quiet (fail)
    go_wp2_with fail
    go_ret2
    exact ⟨rfl, below_drewN (Below.refl _ _) _⟩
end Go.Proofs.YtncopdhhchmpeaaGreatDoor
