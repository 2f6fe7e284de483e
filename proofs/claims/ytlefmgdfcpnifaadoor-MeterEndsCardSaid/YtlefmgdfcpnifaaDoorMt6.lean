/-
  package meter: the chain of a meter that is not there.
-/
import Derived.Test.YtlefmgdfcpnifaaDoorMt5
namespace Go.Proofs.YtlefmgdfcpnifaaDoor
open Go.ChangeShapes Go.WideShapes Go.ChangeAt Go.RowKit
set_option linter.unusedVariables false
theorem chain_absent {base P p B G n c : Nat} {th : Nat → Bool} {vr pr tk : Nat → Int} (k : Nat) (hk : k < n) (ht : Hid (th k = false)) (w : World) (h : MtAt w base P p B G n c th vr pr tk) :
    Calls Tryd.prog 67 #[.pointer (some ⟨P, 0, none⟩), .int .i64 k] w fun e w' => e = .returned (.slice none 0 0) ∧ w = w' := by
  have H := Lib.hid h
  have f0 := h.f0
  clear h
  go_enter Tryd.func67, Tryd.ntmps67
  go_wp2_with fail
  refine wp_loop_rounds 1 ?_
  rw [rounds_succ]
  go_wp2_with (first | (go_at_call 23; (with_reducible refine (athere_in k hk false ht _ H.out.ar).mono ?_); rintro e w1 ⟨rfl, rfl⟩))
  go_ret
  exact ⟨rfl, rfl⟩
/-- Contains in no slice. -/
theorem scon_nil (v : Int) (w : World) :
    Calls Tryd.prog 68 #[.slice none 0 0, .int .i64 v] w fun e w' => e = .returned (.bool false) ∧ w = w' := by
  have HC : Hid (Calls Tryd.prog 75 #[.slice none 0 0, .int .i64 v] w fun e w' => e = .returned (.int .i64 (-1)) ∧ w = w') := Lib.hid (by
    go_enter Tryd.func75, Tryd.ntmps75
    go_wp2_with fail
    refine wp_loop_rounds 1 ?_
    rw [rounds_succ]
    go_wp2_with fail
    go_ret
    exact ⟨rfl, rfl⟩)
  go_enter Tryd.func68, Tryd.ntmps68
  go_wp2_with (first | (go_at_call 75; (with_reducible refine HC.out.mono ?_); rintro e w1 ⟨rfl, rfl⟩))
  go_ret
  exact ⟨rfl, rfl⟩
end Go.Proofs.YtlefmgdfcpnifaaDoor
