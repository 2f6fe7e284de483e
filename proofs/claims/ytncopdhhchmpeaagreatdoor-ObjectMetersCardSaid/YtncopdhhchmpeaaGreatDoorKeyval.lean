import Derived.Test.YtncopdhhchmpeaaGreatDoorOpen
import Derived.Outline
import Derived.Deep.RegionWith
import Derived.Deep.RegionHeld3
import Derived.WalkLawsBesides
import Derived.WalkSpells
import Derived.Laws.BitsAllLaws
namespace Go.Proofs.YtncopdhhchmpeaaGreatDoor
open Go.ChangeShapes Go.WideShapes Go.ChangeAt Go.RowKit
set_option linter.unusedVariables false

theorem bcell {W w1 : World} (hb : Below W.heap.size W w1) : (∀ b o, b < W.heap.size → w1.cell? ⟨b, o, none⟩ = W.cell? ⟨b, o, none⟩) ∧ (∀ b o, b < W.heap.size → w1.frozen? ⟨b, o, none⟩ = W.frozen? ⟨b, o, none⟩) :=
  ⟨fun b o h => hb.cell (p := ⟨b, o, none⟩) h, fun b o h => hb.frozen (p := ⟨b, o, none⟩) h⟩

/-- Are two keys the same? -/
def sameB (a0 a1 a2 a3 a4 b0 b1 b2 b3 b4 : Int) : Bool := a0 == b0 && (a1 == b1 && (a2 == b2 && (a3 == b3 && a4 == b4)))

theorem samekey_any (a0 a1 a2 a3 a4 b0 b1 b2 b3 b4 : Int) (w : World) :
    Calls Tryz.prog 22 #[.agg #[.int .i64 a0, .int .i64 a1, .int .i64 a2, .int .i64 a3, .int .u32 a4], .agg #[.int .i64 b0, .int .i64 b1, .int .i64 b2, .int .i64 b3, .int .u32 b4]] w
      fun e w' => e = .returned (.bool (sameB a0 a1 a2 a3 a4 b0 b1 b2 b3 b4)) ∧ Below w.heap.size w w' := by
  go_enter Tryz.func22, Tryz.ntmps22
  go_wp2
  all_goals go_ret
  all_goals refine ⟨?_, ((Below.refl _ _).alloc (Nat.le_refl _) _).alloc (by simp) _⟩
  all_goals simp [sameB, *]

theorem weaken_mem (k0 k1 k2 k3 k4 : Int) (h : k0 = 2 ∨ k0 = 3) (w : World) :
    Calls Tryz.prog 166 #[(Value.agg #[.int .i64 k0, .int .i64 k1, .int .i64 k2, .int .i64 k3, .int .u32 k4])] w
      fun e w' => e = .returned (.agg #[.int .i64 k0, .int .i64 k1, .int .i64 k2, .int .i64 (bits BinOp.or IntKind.i64 k3 5), .int .u32 k4]) ∧ Below w.heap.size w w' := by
  rcases h with rfl | rfl
  all_goals
    go_enter Tryz.func166, Tryz.ntmps166
    go_wp2
    refine bodyPost_ret (v := .agg #[.int .i64 _, .int .i64 k1, .int .i64 k2, .int .i64 (bits BinOp.or IntKind.i64 k3 5), .int .u32 k4]) (by simp [results, Tryz.results166, go_sem]) rfl ⟨rfl, ((Below.refl _ _).alloc (Nat.le_refl _) _).alloc (by simp) _⟩
theorem weaken_same (k0 k1 k2 k3 k4 : Int) (h : k0 = 0 ∨ k0 = 1 ∨ k0 = 12 ∨ k0 = 14) (w : World) :
    Calls Tryz.prog 166 #[(Value.agg #[.int .i64 k0, .int .i64 k1, .int .i64 k2, .int .i64 k3, .int .u32 k4])] w fun e w' => e = .returned (Value.agg #[.int .i64 k0, .int .i64 k1, .int .i64 k2, .int .i64 k3, .int .u32 k4]) ∧ Below w.heap.size w w' := by
  rcases h with rfl | rfl | rfl | rfl
  all_goals
    go_enter Tryz.func166, Tryz.ntmps166
    go_wp2
    refine bodyPost_ret (v := .agg #[.int .i64 _, .int .i64 k1, .int .i64 k2, .int .i64 k3, .int .u32 k4]) (by simp [results, Tryz.results166, go_sem]) rfl ⟨rfl, ((Below.refl _ _).alloc (Nat.le_refl _) _).alloc (by simp) _⟩
theorem weaken_void (k0 k1 k2 k3 k4 : Int) (h0 : ¬ k0 = 0) (h1 : ¬ k0 = 1) (h2 : ¬ k0 = 2) (h3 : ¬ k0 = 3) (h12 : ¬ k0 = 12) (h14 : ¬ k0 = 14) (w : World) :
    Calls Tryz.prog 166 #[(Value.agg #[.int .i64 k0, .int .i64 k1, .int .i64 k2, .int .i64 k3, .int .u32 k4])] w
      fun e w' => e = .returned (.agg #[.int .i64 0, .int .i64 0, .int .i64 0, .int .i64 0, .int .u32 0]) ∧ Below w.heap.size w w' := by
  go_enter Tryz.func166, Tryz.ntmps166
  go_wp2
  refine bodyPost_ret (v := .agg #[.int .i64 0, .int .i64 0, .int .i64 0, .int .i64 0, .int .u32 0]) (by simp [results, Tryz.results166, go_sem]) rfl ⟨rfl, ((Below.refl _ _).alloc (Nat.le_refl _) _).alloc (by simp) _⟩

/-- What a key is, weakened: kind and rights decide. -/
def Wk (k r : List Int) : Prop :=
  ((k.getD 0 0 = 2 ∨ k.getD 0 0 = 3) ∧ r = [k.getD 0 0, k.getD 1 0, k.getD 2 0, bits BinOp.or IntKind.i64 (k.getD 3 0) 5, k.getD 4 0]) ∨
  ((k.getD 0 0 = 0 ∨ k.getD 0 0 = 1 ∨ k.getD 0 0 = 12 ∨ k.getD 0 0 = 14) ∧ r = [k.getD 0 0, k.getD 1 0, k.getD 2 0, k.getD 3 0, k.getD 4 0]) ∨
  ((¬ k.getD 0 0 = 0 ∧ ¬ k.getD 0 0 = 1 ∧ ¬ k.getD 0 0 = 2 ∧ ¬ k.getD 0 0 = 3 ∧ ¬ k.getD 0 0 = 12 ∧ ¬ k.getD 0 0 = 14) ∧ r = [0, 0, 0, 0, 0])
theorem weaken_any (k0 k1 k2 k3 k4 : Int) (r0 r1 r2 r3 r4 : Int) (h : Hid (Wk [k0, k1, k2, k3, k4] [r0, r1, r2, r3, r4])) (w : World) :
    Calls Tryz.prog 166 #[(Value.agg #[.int .i64 k0, .int .i64 k1, .int .i64 k2, .int .i64 k3, .int .u32 k4])] w fun e w' => e = .returned (Value.agg #[.int .i64 r0, .int .i64 r1, .int .i64 r2, .int .i64 r3, .int .u32 r4]) ∧ Below w.heap.size w w' := by
  rcases h.out with ⟨hk, hr⟩ | ⟨hk, hr⟩ | ⟨hk, hr⟩
  · simp only [List.getD_cons_zero, List.getD_cons_succ, List.cons.injEq, and_true] at hk hr
    obtain ⟨rfl, rfl, rfl, rfl, rfl⟩ := hr
    exact weaken_mem _ _ _ _ _ hk w
  · simp only [List.getD_cons_zero, List.getD_cons_succ, List.cons.injEq, and_true] at hk hr
    obtain ⟨rfl, rfl, rfl, rfl, rfl⟩ := hr
    exact weaken_same _ _ _ _ _ hk w
  · simp only [List.getD_cons_zero, List.cons.injEq, and_true] at hk hr
    obtain ⟨rfl, rfl, rfl, rfl, rfl⟩ := hr
    exact weaken_void _ _ _ _ _ hk.1 hk.2.1 hk.2.2.1 hk.2.2.2.1 hk.2.2.2.2.1 hk.2.2.2.2.2 w

theorem keep1 {w w1 w2 : World} (k0 k1 k2 k3 k4 : Int) (h : Below w.heap.size w w1 ∧ w.heap.size < w1.heap.size ∧ w1.cell? ⟨w.heap.size, 0, none⟩ = some (.int .i64 k0) ∧ w1.cell? ⟨w.heap.size, 1, none⟩ = some (.int .i64 k1) ∧ w1.cell? ⟨w.heap.size, 2, none⟩ = some (.int .i64 k2) ∧ w1.cell? ⟨w.heap.size, 3, none⟩ = some (.int .i64 k3) ∧ w1.cell? ⟨w.heap.size, 4, none⟩ = some (.int .u32 k4)) (hb : Below w1.heap.size w1 w2) : Below w.heap.size w w2 ∧ w.heap.size < w2.heap.size ∧ w2.cell? ⟨w.heap.size, 0, none⟩ = some (.int .i64 k0) ∧ w2.cell? ⟨w.heap.size, 1, none⟩ = some (.int .i64 k1) ∧ w2.cell? ⟨w.heap.size, 2, none⟩ = some (.int .i64 k2) ∧ w2.cell? ⟨w.heap.size, 3, none⟩ = some (.int .i64 k3) ∧ w2.cell? ⟨w.heap.size, 4, none⟩ = some (.int .u32 k4) := by
  obtain ⟨h1, h2, h3, h4, h5, h6, h7⟩ := h
  have hc := (bcell hb).1
  have hz := hb.size
  exact ⟨h1.trans (hb.mono (by omega)), by omega, by rw [hc _ _ h2]; exact h3, by rw [hc _ _ h2]; exact h4, by rw [hc _ _ h2]; exact h5, by rw [hc _ _ h2]; exact h6, by rw [hc _ _ h2]; exact h7⟩
theorem start1 (w : World) (k0 k1 k2 k3 k4 : Int) : Below w.heap.size w (w.alloc (.cells #[.int .i64 k0, .int .i64 k1, .int .i64 k2, .int .i64 k3, .int .u32 k4] 42)).drew ∧ w.heap.size < (w.alloc (.cells #[.int .i64 k0, .int .i64 k1, .int .i64 k2, .int .i64 k3, .int .u32 k4] 42)).drew.heap.size ∧ (w.alloc (.cells #[.int .i64 k0, .int .i64 k1, .int .i64 k2, .int .i64 k3, .int .u32 k4] 42)).drew.cell? ⟨w.heap.size, 0, none⟩ = some (.int .i64 k0) ∧ (w.alloc (.cells #[.int .i64 k0, .int .i64 k1, .int .i64 k2, .int .i64 k3, .int .u32 k4] 42)).drew.cell? ⟨w.heap.size, 1, none⟩ = some (.int .i64 k1) ∧ (w.alloc (.cells #[.int .i64 k0, .int .i64 k1, .int .i64 k2, .int .i64 k3, .int .u32 k4] 42)).drew.cell? ⟨w.heap.size, 2, none⟩ = some (.int .i64 k2) ∧ (w.alloc (.cells #[.int .i64 k0, .int .i64 k1, .int .i64 k2, .int .i64 k3, .int .u32 k4] 42)).drew.cell? ⟨w.heap.size, 3, none⟩ = some (.int .i64 k3) ∧ (w.alloc (.cells #[.int .i64 k0, .int .i64 k1, .int .i64 k2, .int .i64 k3, .int .u32 k4] 42)).drew.cell? ⟨w.heap.size, 4, none⟩ = some (.int .u32 k4) :=
  ⟨((Below.refl _ _).alloc (Nat.le_refl _) _).drew, by simp, by simp, by simp, by simp, by simp, by simp⟩
theorem sensory_yes (k0 k1 k2 k3 k4 : Int) (h : Hid (Wk [k0, k1, k2, k3, k4] [k0, k1, k2, k3, k4])) (w : World) :
    Calls Tryz.prog 164 #[(Value.agg #[.int .i64 k0, .int .i64 k1, .int .i64 k2, .int .i64 k3, .int .u32 k4])] w fun e w' => e = .returned (.bool true) ∧ Below w.heap.size w w' := by
  have st := start1 w k0 k1 k2 k3 k4
  have ST := Lib.hid st
  clear st
  go_enter Tryz.func164, Tryz.ntmps164
  go_wp2
  go_region_held3 (fun w' => Below w.heap.size w w' ∧ w.heap.size < w'.heap.size ∧ w'.cell? ⟨w.heap.size, 0, none⟩ = some (.int .i64 k0) ∧ w'.cell? ⟨w.heap.size, 1, none⟩ = some (.int .i64 k1) ∧ w'.cell? ⟨w.heap.size, 2, none⟩ = some (.int .i64 k2) ∧ w'.cell? ⟨w.heap.size, 3, none⟩ = some (.int .i64 k3) ∧ w'.cell? ⟨w.heap.size, 4, none⟩ = some (.int .u32 k4)) (first | exact ST.out | exact keep1 _ _ _ _ _ (by assumption) hb)
    (first | (go_at_call 166; refine (weaken_any _ _ _ _ _ _ _ _ _ _ h _).mono ?_; rintro e w' ⟨rfl, hb⟩))
  have hS : Below w.heap.size w w' ∧ w.heap.size < w'.heap.size ∧ w'.cell? ⟨w.heap.size, 0, none⟩ = some (.int .i64 k0) ∧ w'.cell? ⟨w.heap.size, 1, none⟩ = some (.int .i64 k1) ∧ w'.cell? ⟨w.heap.size, 2, none⟩ = some (.int .i64 k2) ∧ w'.cell? ⟨w.heap.size, 3, none⟩ = some (.int .i64 k3) ∧ w'.cell? ⟨w.heap.size, 4, none⟩ = some (.int .u32 k4) := by assumption
  obtain ⟨hB, -⟩ := hS
  go_wp2
  go_ret
  exact ⟨rfl, hB⟩
end Go.Proofs.YtncopdhhchmpeaaGreatDoor
