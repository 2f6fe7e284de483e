import Derived.Test.YtncopdhhchmpeaaGreatDoorKey
import Derived.Deep.QuietTactic
import Derived.BigQuiet
import Derived.WalkSmall
namespace Go.Proofs.YtncopdhhchmpeaaGreatDoor
open Go.ChangeShapes Go.WideShapes Go.ChangeAt Go.RowKit
set_option linter.unusedVariables false
theorem keepk {W w' : World} {b : Nat} {k0 k1 k2 k3 k4 : Int} (h : b < W.heap.size ∧ W.cell? ⟨b, 0, none⟩ = some (.int .i64 k0) ∧ W.cell? ⟨b, 1, none⟩ = some (.int .i64 k1) ∧ W.cell? ⟨b, 2, none⟩ = some (.int .i64 k2) ∧ W.cell? ⟨b, 3, none⟩ = some (.int .i64 k3) ∧ W.cell? ⟨b, 4, none⟩ = some (.int .u32 k4)) (hb : Below W.heap.size W w') : b < w'.heap.size ∧ w'.cell? ⟨b, 0, none⟩ = some (.int .i64 k0) ∧ w'.cell? ⟨b, 1, none⟩ = some (.int .i64 k1) ∧ w'.cell? ⟨b, 2, none⟩ = some (.int .i64 k2) ∧ w'.cell? ⟨b, 3, none⟩ = some (.int .i64 k3) ∧ w'.cell? ⟨b, 4, none⟩ = some (.int .u32 k4) := by
  obtain ⟨h2, h3, h4, h5, h6, h7⟩ := h
  have hc := (bcell hb).1
  have hz := hb.size
  exact ⟨by omega, by rw [hc _ _ h2]; exact h3, by rw [hc _ _ h2]; exact h4, by rw [hc _ _ h2]; exact h5, by rw [hc _ _ h2]; exact h6, by rw [hc _ _ h2]; exact h7⟩
theorem below_of {P : Program} {f : FuncId} {args : Array Value} {w : World} {v : Value} (h : Calls P f args w fun e w' => e = .returned v ∧ w = w') : Calls P f args w fun e w' => e = .returned v ∧ Below w.heap.size w w' :=
  h.mono fun _ _ ⟨he, hw⟩ => ⟨he, hw ▸ Below.refl _ _⟩
theorem kplaces_is (k m : Int) (h : placesOf k = m) (w : World) : Calls Tryz.prog 100 #[.int .i64 k] w fun e w' => e = .returned (.int .i64 m) ∧ w = w' := by
  rw [← h]; exact kplaces_any k w
theorem kmaxdata_is (k m : Int) (h : dataMost k = m) (w : World) : Calls Tryz.prog 102 #[.int .i64 k] w fun e w' => e = .returned (.int .u32 m) ∧ w = w' := by
  rw [← h]; exact kmaxdata_any k w
theorem keepSP {w W w' : World} (k0 k1 k2 k3 k4 : Int) (h : Below w.heap.size w W ∧ (w.heap.size < W.heap.size ∧ W.cell? ⟨w.heap.size, 0, none⟩ = some (.int .i64 k0) ∧ W.cell? ⟨w.heap.size, 1, none⟩ = some (.int .i64 k1) ∧ W.cell? ⟨w.heap.size, 2, none⟩ = some (.int .i64 k2) ∧ W.cell? ⟨w.heap.size, 3, none⟩ = some (.int .i64 k3) ∧ W.cell? ⟨w.heap.size, 4, none⟩ = some (.int .u32 k4))) (hb : Below W.heap.size W w') : Below w.heap.size w w' ∧ (w.heap.size < w'.heap.size ∧ w'.cell? ⟨w.heap.size, 0, none⟩ = some (.int .i64 k0) ∧ w'.cell? ⟨w.heap.size, 1, none⟩ = some (.int .i64 k1) ∧ w'.cell? ⟨w.heap.size, 2, none⟩ = some (.int .i64 k2) ∧ w'.cell? ⟨w.heap.size, 3, none⟩ = some (.int .i64 k3) ∧ w'.cell? ⟨w.heap.size, 4, none⟩ = some (.int .u32 k4)) := ⟨h.1.trans (hb.mono h.1.size), keepk h.2 hb⟩
theorem startSP (w : World) (k0 k1 k2 k3 k4 : Int) : Below w.heap.size w (w.alloc (.cells #[.int .i64 k0, .int .i64 k1, .int .i64 k2, .int .i64 k3, .int .u32 k4] 42)) ∧ (w.heap.size < (w.alloc (.cells #[.int .i64 k0, .int .i64 k1, .int .i64 k2, .int .i64 k3, .int .u32 k4] 42)).heap.size ∧ (w.alloc (.cells #[.int .i64 k0, .int .i64 k1, .int .i64 k2, .int .i64 k3, .int .u32 k4] 42)).cell? ⟨w.heap.size, 0, none⟩ = some (.int .i64 k0) ∧ (w.alloc (.cells #[.int .i64 k0, .int .i64 k1, .int .i64 k2, .int .i64 k3, .int .u32 k4] 42)).cell? ⟨w.heap.size, 1, none⟩ = some (.int .i64 k1) ∧ (w.alloc (.cells #[.int .i64 k0, .int .i64 k1, .int .i64 k2, .int .i64 k3, .int .u32 k4] 42)).cell? ⟨w.heap.size, 2, none⟩ = some (.int .i64 k2) ∧ (w.alloc (.cells #[.int .i64 k0, .int .i64 k1, .int .i64 k2, .int .i64 k3, .int .u32 k4] 42)).cell? ⟨w.heap.size, 3, none⟩ = some (.int .i64 k3) ∧ (w.alloc (.cells #[.int .i64 k0, .int .i64 k1, .int .i64 k2, .int .i64 k3, .int .u32 k4] 42)).cell? ⟨w.heap.size, 4, none⟩ = some (.int .u32 k4)) := ⟨(Below.refl _ _).alloc (Nat.le_refl _) _, by simp, by simp, by simp, by simp, by simp, by simp⟩
theorem kvalid_page (w : World) : Calls Tryz.prog 70 #[.agg #[.int .i64 3, .int .i64 3, .int .i64 2, .int .i64 1, .int .u32 0]] w fun e w' => e = .returned .nilIface ∧ Below w.heap.size w w' := by
  have S0 := startSP w 3 3 2 1 0
  have ST : Hid (Below w.heap.size w (w.alloc (.cells #[.int .i64 3, .int .i64 3, .int .i64 2, .int .i64 1, .int .u32 0] 42)).drew ∧ w.heap.size < (w.alloc (.cells #[.int .i64 3, .int .i64 3, .int .i64 2, .int .i64 1, .int .u32 0] 42)).drew.heap.size ∧ (w.alloc (.cells #[.int .i64 3, .int .i64 3, .int .i64 2, .int .i64 1, .int .u32 0] 42)).drew.cell? ⟨w.heap.size, 0, none⟩ = some (.int .i64 3) ∧ (w.alloc (.cells #[.int .i64 3, .int .i64 3, .int .i64 2, .int .i64 1, .int .u32 0] 42)).drew.cell? ⟨w.heap.size, 1, none⟩ = some (.int .i64 3) ∧ (w.alloc (.cells #[.int .i64 3, .int .i64 3, .int .i64 2, .int .i64 1, .int .u32 0] 42)).drew.cell? ⟨w.heap.size, 2, none⟩ = some (.int .i64 2) ∧ (w.alloc (.cells #[.int .i64 3, .int .i64 3, .int .i64 2, .int .i64 1, .int .u32 0] 42)).drew.cell? ⟨w.heap.size, 3, none⟩ = some (.int .i64 1) ∧ (w.alloc (.cells #[.int .i64 3, .int .i64 3, .int .i64 2, .int .i64 1, .int .u32 0] 42)).drew.cell? ⟨w.heap.size, 4, none⟩ = some (.int .u32 0)) := Lib.hid ⟨S0.1.drew, S0.2⟩
  clear S0
  go_enter Tryz.func70, Tryz.ntmps70
  go_wp2_with (first
    | (go_at_call 99; refine (kwithin_yes _ _ (by decide) (by decide) _).mono ?_; rintro e w1 ⟨rfl, rfl⟩)
    | (go_at_call 100; refine (kplaces_is 3 256 rfl _).mono ?_; rintro e w1 ⟨rfl, rfl⟩)
    | (go_at_call 101; refine (kmay_yes _ (.inr rfl) _).mono ?_; rintro e w1 ⟨rfl, rfl⟩))
  go_region_held3 (fun w' => Below w.heap.size w w' ∧ w.heap.size < w'.heap.size ∧ w'.cell? ⟨w.heap.size, 0, none⟩ = some (.int .i64 3) ∧ w'.cell? ⟨w.heap.size, 1, none⟩ = some (.int .i64 3) ∧ w'.cell? ⟨w.heap.size, 2, none⟩ = some (.int .i64 2) ∧ w'.cell? ⟨w.heap.size, 3, none⟩ = some (.int .i64 1) ∧ w'.cell? ⟨w.heap.size, 4, none⟩ = some (.int .u32 0)) (first | exact ST.out | assumption | exact keepSP 3 3 2 1 0 (by assumption) hb)
    (first
      | (go_at_call 99; refine (below_of (kwithin_yes _ _ (by decide) (by decide) _)).mono ?_; rintro e w' ⟨rfl, hb⟩)
      | (go_at_call 102; refine (below_of (kmaxdata_is 3 0 rfl _)).mono ?_; rintro e w' ⟨rfl, hb⟩))
  go_wp2
  go_ret
  refine ⟨rfl, ?_⟩
  apply And.left
  assumption
end Go.Proofs.YtncopdhhchmpeaaGreatDoor
