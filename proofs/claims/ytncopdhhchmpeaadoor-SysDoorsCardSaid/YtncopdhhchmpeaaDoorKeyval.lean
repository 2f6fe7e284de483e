import Derived.Test.YtncopdhhchmpeaaDoorOpen
import Derived.Outline
import Derived.Deep.RegionWith
import Derived.Deep.RegionHeld3
import Derived.WalkLawsBesides
import Derived.WalkSpells
import Derived.Laws.BitsAllLaws
namespace Go.Proofs.YtncopdhhchmpeaaDoor
open Go.ChangeShapes Go.WideShapes Go.ChangeAt Go.RowKit
set_option linter.unusedVariables false

theorem bcell {W w1 : World} (hb : Below W.heap.size W w1) : (∀ b o, b < W.heap.size → w1.cell? ⟨b, o, none⟩ = W.cell? ⟨b, o, none⟩) ∧ (∀ b o, b < W.heap.size → w1.frozen? ⟨b, o, none⟩ = W.frozen? ⟨b, o, none⟩) :=
  ⟨fun b o h => hb.cell (p := ⟨b, o, none⟩) h, fun b o h => hb.frozen (p := ⟨b, o, none⟩) h⟩

/-- Are two keys the same? -/
def sameB (a0 a1 a2 a3 a4 b0 b1 b2 b3 b4 : Int) : Bool := a0 == b0 && (a1 == b1 && (a2 == b2 && (a3 == b3 && a4 == b4)))

theorem samekey_any (a0 a1 a2 a3 a4 b0 b1 b2 b3 b4 : Int) (w : World) :
    Calls Tryd.prog 19 #[.agg #[.int .i64 a0, .int .i64 a1, .int .i64 a2, .int .i64 a3, .int .u32 a4], .agg #[.int .i64 b0, .int .i64 b1, .int .i64 b2, .int .i64 b3, .int .u32 b4]] w
      fun e w' => e = .returned (.bool (sameB a0 a1 a2 a3 a4 b0 b1 b2 b3 b4)) ∧ Below w.heap.size w w' := by
  go_enter Tryd.func19, Tryd.ntmps19
  go_wp2
  all_goals go_ret
  all_goals refine ⟨?_, ((Below.refl _ _).alloc (Nat.le_refl _) _).alloc (by simp) _⟩
  all_goals simp [sameB, *]

/-- What a key is, weakened: kind and rights decide. -/
def Wk (k r : List Int) : Prop :=
  ((k.getD 0 0 = 2 ∨ k.getD 0 0 = 3) ∧ r = [k.getD 0 0, k.getD 1 0, k.getD 2 0, bits BinOp.or IntKind.i64 (k.getD 3 0) 5, k.getD 4 0]) ∨
  ((k.getD 0 0 = 0 ∨ k.getD 0 0 = 1 ∨ k.getD 0 0 = 12 ∨ k.getD 0 0 = 14) ∧ r = [k.getD 0 0, k.getD 1 0, k.getD 2 0, k.getD 3 0, k.getD 4 0]) ∨
  ((¬ k.getD 0 0 = 0 ∧ ¬ k.getD 0 0 = 1 ∧ ¬ k.getD 0 0 = 2 ∧ ¬ k.getD 0 0 = 3 ∧ ¬ k.getD 0 0 = 12 ∧ ¬ k.getD 0 0 = 14) ∧ r = [0, 0, 0, 0, 0])
theorem keep1 {w w1 w2 : World} (k0 k1 k2 k3 k4 : Int) (h : Below w.heap.size w w1 ∧ w.heap.size < w1.heap.size ∧ w1.cell? ⟨w.heap.size, 0, none⟩ = some (.int .i64 k0) ∧ w1.cell? ⟨w.heap.size, 1, none⟩ = some (.int .i64 k1) ∧ w1.cell? ⟨w.heap.size, 2, none⟩ = some (.int .i64 k2) ∧ w1.cell? ⟨w.heap.size, 3, none⟩ = some (.int .i64 k3) ∧ w1.cell? ⟨w.heap.size, 4, none⟩ = some (.int .u32 k4)) (hb : Below w1.heap.size w1 w2) : Below w.heap.size w w2 ∧ w.heap.size < w2.heap.size ∧ w2.cell? ⟨w.heap.size, 0, none⟩ = some (.int .i64 k0) ∧ w2.cell? ⟨w.heap.size, 1, none⟩ = some (.int .i64 k1) ∧ w2.cell? ⟨w.heap.size, 2, none⟩ = some (.int .i64 k2) ∧ w2.cell? ⟨w.heap.size, 3, none⟩ = some (.int .i64 k3) ∧ w2.cell? ⟨w.heap.size, 4, none⟩ = some (.int .u32 k4) := by
  obtain ⟨h1, h2, h3, h4, h5, h6, h7⟩ := h
  have hc := (bcell hb).1
  have hz := hb.size
  exact ⟨h1.trans (hb.mono (by omega)), by omega, by rw [hc _ _ h2]; exact h3, by rw [hc _ _ h2]; exact h4, by rw [hc _ _ h2]; exact h5, by rw [hc _ _ h2]; exact h6, by rw [hc _ _ h2]; exact h7⟩
theorem start1 (w : World) (k0 k1 k2 k3 k4 : Int) : Below w.heap.size w (w.alloc (.cells #[.int .i64 k0, .int .i64 k1, .int .i64 k2, .int .i64 k3, .int .u32 k4] 82)).drew ∧ w.heap.size < (w.alloc (.cells #[.int .i64 k0, .int .i64 k1, .int .i64 k2, .int .i64 k3, .int .u32 k4] 82)).drew.heap.size ∧ (w.alloc (.cells #[.int .i64 k0, .int .i64 k1, .int .i64 k2, .int .i64 k3, .int .u32 k4] 82)).drew.cell? ⟨w.heap.size, 0, none⟩ = some (.int .i64 k0) ∧ (w.alloc (.cells #[.int .i64 k0, .int .i64 k1, .int .i64 k2, .int .i64 k3, .int .u32 k4] 82)).drew.cell? ⟨w.heap.size, 1, none⟩ = some (.int .i64 k1) ∧ (w.alloc (.cells #[.int .i64 k0, .int .i64 k1, .int .i64 k2, .int .i64 k3, .int .u32 k4] 82)).drew.cell? ⟨w.heap.size, 2, none⟩ = some (.int .i64 k2) ∧ (w.alloc (.cells #[.int .i64 k0, .int .i64 k1, .int .i64 k2, .int .i64 k3, .int .u32 k4] 82)).drew.cell? ⟨w.heap.size, 3, none⟩ = some (.int .i64 k3) ∧ (w.alloc (.cells #[.int .i64 k0, .int .i64 k1, .int .i64 k2, .int .i64 k3, .int .u32 k4] 82)).drew.cell? ⟨w.heap.size, 4, none⟩ = some (.int .u32 k4) :=
  ⟨((Below.refl _ _).alloc (Nat.le_refl _) _).drew, by simp, by simp, by simp, by simp, by simp, by simp⟩
end Go.Proofs.YtncopdhhchmpeaaDoor
