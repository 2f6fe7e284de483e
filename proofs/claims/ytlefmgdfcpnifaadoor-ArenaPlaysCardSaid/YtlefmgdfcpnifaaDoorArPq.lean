/-
  ArenaPlays: what is carried beside a copy; the counts.
-/
import Derived.Test.YtlefmgdfcpnifaaDoorArP
namespace Go.Proofs.YtlefmgdfcpnifaaDoor
open Go.ChangeShapes Go.WideShapes Go.ChangeAt Go.RowKit
set_option linter.unusedVariables false
/-- The law's state, and a copy of the arena apart from all of it. -/
structure CP (W w : World) (base p B n c L V : Nat) (th lv : Nat → Bool) (va vr : Nat → Int) (b2 p2 B2 c2 : Nat) (th0 : Nat → Bool) (vr0 : Nat → Int) : Prop where
  ps : PS W w base p B n c L V th lv va vr
  cp : ArAt w b2 p2 B2 n c2 th0 vr0
  q1 : p2 ≠ B
  q2 : B2 ≠ B
  q3 : p2 ≠ L
  q4 : B2 ≠ L
  q5 : p2 ≠ V
  q6 : B2 ≠ V
section
variable {W w w' : World} {base p B n c L V : Nat} {th th' lv lv' : Nat → Bool} {va va' vr vr' : Nat → Int} {b2 p2 B2 c2 : Nat} {th0 : Nat → Bool} {vr0 : Nat → Int}
theorem CP.made (h : PS W w base p B n c L V th lv va vr) (hc : ArAt w' w.heap.size p2 B2 n c2 th0 vr0) (hb : Below w.heap.size w w') : CP W w' base p B n c L V th lv va vr w.heap.size p2 B2 c2 th0 vr0 := by
  have h1 := h.vv.ar.lt
  have h2 := h.lv.lt
  have h3 := h.vr.lt
  have h4 := hc.pb
  have h5 := hc.lt
  exact ⟨h.step hb, hc, by omega, by omega, by omega, by omega, by omega, by omega⟩
theorem CP.step (h : CP W w base p B n c L V th lv va vr b2 p2 B2 c2 th0 vr0) (hb : Below w.heap.size w w') : CP W w' base p B n c L V th lv va vr b2 p2 B2 c2 th0 vr0 := ⟨h.ps.step hb, h.cp.below hb, h.q1, h.q2, h.q3, h.q4, h.q5, h.q6⟩
theorem CP.turn (h : CP W w base p B n c L V th lv va vr b2 p2 B2 c2 th0 vr0) (hA : ArAt w' base p B n c th' va') (hg : w.grownBy w' (some B)) : CP W w' base p B n c L V th' lv va' vr b2 p2 B2 c2 th0 vr0 := ⟨h.ps.turn hA hg, h.cp.kept hg h.q1 h.q2, h.q1, h.q2, h.q3, h.q4, h.q5, h.q6⟩
theorem CP.putL (h : CP W w base p B n c L V th lv va vr b2 p2 B2 c2 th0 vr0) (k : Nat) (hk : k < n) (x : Bool) : CP W (w.setCell ⟨L, k, none⟩ (.bool x)) base p B n c L V th (upd lv k x) va vr b2 p2 B2 c2 th0 vr0 := ⟨h.ps.putL k hk x, h.cp.kept (h.ps.lv.set k hk x).2 h.q3 h.q4, h.q1, h.q2, h.q3, h.q4, h.q5, h.q6⟩
theorem CP.putV (h : CP W w base p B n c L V th lv va vr b2 p2 B2 c2 th0 vr0) (k : Nat) (hk : k < n) (x : Int) : CP W (w.setCell ⟨V, k, none⟩ (.int .i64 x)) base p B n c L V th lv va (upd vr k x) b2 p2 B2 c2 th0 vr0 := ⟨h.ps.putV k hk x, h.cp.kept (h.ps.vr.set k hk x).2 h.q5 h.q6, h.q1, h.q2, h.q3, h.q4, h.q5, h.q6⟩
theorem CP.ar (h : CP W w base p B n c L V th lv va vr b2 p2 B2 c2 th0 vr0) : ArAt w base p B n c th va := h.ps.vv.ar
theorem CP.bel (h : CP W w base p B n c L V th lv va vr b2 p2 B2 c2 th0 vr0) : Below W.heap.size W w := h.ps.vv.bel
theorem CP.l (h : CP W w base p B n c L V th lv va vr b2 p2 B2 c2 th0 vr0) (k : Nat) (hk : k < n) : w.cell? ⟨L, k, none⟩ = some (.bool (lv k)) := h.ps.lv.at k hk
theorem CP.v (h : CP W w base p B n c L V th lv va vr b2 p2 B2 c2 th0 vr0) (k : Nat) (hk : k < n) : w.cell? ⟨V, k, none⟩ = some (.int .i64 (vr k)) := h.ps.vr.at k hk
theorem CP.lf (h : CP W w base p B n c L V th lv va vr b2 p2 B2 c2 th0 vr0) (k : Nat) : w.frozen? ⟨L, k, none⟩ = false := h.ps.lv.free k
theorem CP.vf (h : CP W w base p B n c L V th lv va vr b2 p2 B2 c2 th0 vr0) (k : Nat) : w.frozen? ⟨V, k, none⟩ = false := h.ps.vr.free k
end
/-- Versions within bounds. -/
def Vb (vr : Nat → Int) (n m : Nat) : Prop := ∀ i, i < n → 0 ≤ vr i ∧ vr i ≤ m
theorem Vb.one {vr : Nat → Int} {n m : Nat} (h : Vb vr n m) (j : Nat) : Vb (upd vr j (vr j + 1)) n (m + 1) := by
  intro i hi
  have := h i hi
  unfold upd
  by_cases e : i = j
  · subst e
    simp
    omega
  · rw [if_neg e]
    omega
theorem Vb.more {vr : Nat → Int} {n m : Nat} (h : Vb vr n m) : Vb vr n (m + 1) := fun i hi => by have := h i hi; omega
theorem free_of (th : Nat → Bool) (vr : Nat → Int) (n m : Nat) (h : Vb vr n m) (hm : m ≤ 1000) (i : Nat) (hi : i < n) : freeB th vr i = !th i := by
  have := h i hi
  unfold freeB
  rw [decide_eq_true (by omega), Bool.and_true]
theorem left_of (th : Nat → Bool) (vr : Nat → Int) (n m : Nat) (h : Vb vr n m) (hm : m ≤ 1000) : cntB (freeB th vr) n + cntB th n = n := by
  rw [cntB_congr (Q := fun i => !th i) n (fun i hi => free_of th vr n m h hm i hi)]
  clear h
  induction n with
  | zero => rfl
  | succ n ih =>
    unfold cntB
    cases th n <;> simp <;> omega
end Go.Proofs.YtlefmgdfcpnifaaDoor
