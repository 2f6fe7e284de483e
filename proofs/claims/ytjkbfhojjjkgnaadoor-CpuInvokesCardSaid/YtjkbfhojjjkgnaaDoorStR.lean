/-
  package store: mayRead, mayWrite; Fetch, Swap, Peek, Poke that are refused; Peek that answers.
-/
import Derived.Test.YtjkbfhojjjkgnaaDoorSt
import Derived.Test.YtjkbfhojjjkgnaaDoorRightFns
namespace Go.Proofs.YtjkbfhojjjkgnaaDoor
open Go.ChangeShapes Go.WideShapes Go.ChangeAt Go.RowKit
set_option linter.unusedVariables false
/-- Is the object there that a key names? -/
def liveB (a b : Shp) (th : Nat → Bool) (vr_ : Nat → Int) (th2 : Nat → Bool) (vr2 : Nat → Int) (k0 k1 k2 : Int) : Bool := if k0 = 2 then (thereB a.n th k1 && (vr_ k1.toNat == k2)) else if k0 = 3 then (thereB b.n th2 k1 && (vr2 k1.toNat == k2)) else false
theorem slive_at {S : Nat} {a b : Shp} {th : Nat → Bool} {vr_ : Nat → Int} {W : Nat → Nat → Value} {th2 : Nat → Bool} {vr2 : Nat → Int} {W2 : Nat → Nat → Int} (k0 k1 k2 k3 k4 : Int) (t : Bool) (ht : Hid (liveB a b th vr_ th2 vr2 k0 k1 k2 = t)) (w : World) (h : (StAt w S a b th vr_ W th2 vr2 W2)) :
    Calls Tryd.prog 107 #[.pointer (some ⟨S, 0, none⟩), (Value.agg #[.int .i64 k0, .int .i64 k1, .int .i64 k2, .int .i64 k3, .int .u32 k4])] w fun e w' => e = .returned (.bool t) ∧ Below w.heap.size w w' := slive_is k0 k1 k2 k3 k4 t (Lib.hid ht.out) w h
theorem new1 (X : World) (cs : Array Value) (T : TypeId) (j : Nat) : (X.alloc (.cells cs T (0, 0))).cell? ⟨X.heap.size, j, none⟩ = cs[j]? ∧ (X.alloc (.cells cs T (0, 0))).frozen? ⟨X.heap.size, j, none⟩ = false ∧ X.heap.size < (X.alloc (.cells cs T (0, 0))).heap.size := ⟨by simp, by simp, by simp⟩
theorem new3 (w : World) (o o' : Obj) (cs : Array Value) (T : TypeId) (j : Nat) : (((w.alloc o).alloc o').alloc (.cells cs T (0, 0))).cell? ⟨w.heap.size + 1 + 1, j, none⟩ = cs[j]? ∧ (((w.alloc o).alloc o').alloc (.cells cs T (0, 0))).frozen? ⟨w.heap.size + 1 + 1, j, none⟩ = false ∧ w.heap.size + 1 + 1 < (((w.alloc o).alloc o').alloc (.cells cs T (0, 0))).heap.size := by
  have e : w.heap.size + 1 + 1 = ((w.alloc o).alloc o').heap.size := by simp
  have h := new1 ((w.alloc o).alloc o') cs T j
  rw [← e] at h
  exact h
theorem kcell5 {W : World} {b : Nat} (z0 z1 z2 z3 z4 : Int) (c0 : ∃ v, W.cell? ⟨b, 0, none⟩ = some v) (c1 : ∃ v, W.cell? ⟨b, 1, none⟩ = some v) (c2 : ∃ v, W.cell? ⟨b, 2, none⟩ = some v) (c3 : ∃ v, W.cell? ⟨b, 3, none⟩ = some v) (c4 : ∃ v, W.cell? ⟨b, 4, none⟩ = some v) :
    let X := (((((W.setCell ⟨b, 0, none⟩ (.int .i64 z0)).setCell ⟨b, 1, none⟩ (.int .i64 z1)).setCell ⟨b, 2, none⟩ (.int .i64 z2)).setCell ⟨b, 3, none⟩ (.int .i64 z3)).setCell ⟨b, 4, none⟩ (.int .u32 z4))
    X.cell? ⟨b, 0, none⟩ = some (.int .i64 z0) ∧ X.cell? ⟨b, 1, none⟩ = some (.int .i64 z1) ∧ X.cell? ⟨b, 2, none⟩ = some (.int .i64 z2) ∧ X.cell? ⟨b, 3, none⟩ = some (.int .i64 z3) ∧ X.cell? ⟨b, 4, none⟩ = some (.int .u32 z4) := by
  have hs : ∀ j, j < (k5 z0 z1 z2 z3 z4).length → (W.cell? ⟨b, 0 + j, none⟩).isSome = true := by
    intro j hj
    rw [Nat.zero_add]
    rcases five j hj with rfl | rfl | rfl | rfl | rfl
    · obtain ⟨v, h⟩ := c0; rw [h]; rfl
    · obtain ⟨v, h⟩ := c1; rw [h]; rfl
    · obtain ⟨v, h⟩ := c2; rw [h]; rfl
    · obtain ⟨v, h⟩ := c3; rw [h]; rfl
    · obtain ⟨v, h⟩ := c4; rw [h]; rfl
  have all := World.cell?_setCells_in b (k5 z0 z1 z2 z3 z4) 0 W hs
  exact ⟨all 0 (by simp [k5]), all 1 (by simp [k5]), all 2 (by simp [k5]), all 3 (by simp [k5]), all 4 (by simp [k5])⟩
end Go.Proofs.YtjkbfhojjjkgnaaDoor
