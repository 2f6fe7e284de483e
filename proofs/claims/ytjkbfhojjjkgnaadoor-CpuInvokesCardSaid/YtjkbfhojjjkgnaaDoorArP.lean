/-
  ArenaPlays: what is carried: the arena, a row of bools and a row of numbers apart from it.
-/
import Derived.Test.YtjkbfhojjjkgnaaDoorAr5
namespace Go.Proofs.YtjkbfhojjjkgnaaDoor
open Go.ChangeShapes Go.WideShapes Go.ChangeAt Go.RowKit
set_option linter.unusedVariables false
theorem infoInt : (Tryd.prog.info? 3).map (fun i => (i.zero, i.size, i.bytes)) = some (some (.int .i64 0), 1, 8) := by kernel_rfl
section
variable {W w w' : World} {base p B n c F : Nat} {vr : Nat → Int}
/-- A row of numbers of the law's own. -/
def IR (w : World) (base F n : Nat) (vr : Nat → Int) : Prop := w.ownsRow base 3 1 (.slice (some ⟨F, 0, none⟩) n n) n ((List.range n).map fun i => Value.int .i64 (vr i))
theorem IR.at (h : IR w base F n vr) (k : Nat) (hk : k < n) : w.cell? ⟨F, k, none⟩ = some (.int .i64 (vr k)) := by
  have := World.ownsRow.cellAt h k (by omega)
  rw [this]
  simp [hk]
theorem IR.lt (h : IR w base F n vr) : base ≤ F ∧ F < w.heap.size := World.ownsRow.lt h F rfl
theorem IR.free (h : IR w base F n vr) (k : Nat) : w.frozen? ⟨F, k, none⟩ = false := World.ownsRow.frozenAt h k
theorem IR.below (h : IR w base F n vr) (hb : Below w.heap.size w w') : IR w' base F n vr := own_below h hb
theorem IR.kept (h : IR w base F n vr) (hg : w.grownBy w' (some B)) (hB : F ≠ B) : IR w' base F n vr := World.ownsRow.kept h hg (.inr (by simpa [Value.ownBlock] using hB))
theorem IR.set (h : IR w base F n vr) (k : Nat) (hk : k < n) (x : Int) : IR (w.setCell ⟨F, k, none⟩ (.int .i64 x)) base F n (upd vr k x) ∧ w.grownBy (w.setCell ⟨F, k, none⟩ (.int .i64 x)) (some F) := by
  have hs := World.ownsRow.stored h k (.int .i64 x)
  refine ⟨?_, hs.2⟩
  unfold IR
  have e : ((List.range n).map fun i => Value.int .i64 (upd vr k x i)) = ((List.range n).map fun i => Value.int .i64 (vr i)).set k (.int .i64 x) := by
    apply List.ext_getElem?
    intro j
    by_cases hj : j < n
    · by_cases e : j = k
      · subst e
        simp [upd, hj]
      · rw [List.getElem?_set_ne (by omega)]
        simp [upd, e, hj]
    · rw [List.getElem?_eq_none (by simp; omega), List.getElem?_eq_none (by simp; omega)]
  rw [e]
  exact hs.1
end
/-- The law's state: who is there, the versions, in the arena and in the law's own rows alike. -/
structure PS (W w : World) (base p B n c L V : Nat) (th lv : Nat → Bool) (va vr : Nat → Int) : Prop where
  vv : VV W w base p B n c th va
  lv : FR w W.heap.size L n lv
  vr : IR w W.heap.size V n vr
  lb : L ≠ B
  lp : L ≠ p
  vb : V ≠ B
  vp : V ≠ p
  lvn : L ≠ V
section
variable {W w w' : World} {base p B n c L V : Nat} {th th' lv lv' : Nat → Bool} {va va' vr vr' : Nat → Int}
theorem PS.step (h : PS W w base p B n c L V th lv va vr) (hb : Below w.heap.size w w') : PS W w' base p B n c L V th lv va vr := ⟨h.vv.step hb, h.lv.below hb, h.vr.below hb, h.lb, h.lp, h.vb, h.vp, h.lvn⟩
theorem PS.turn (h : PS W w base p B n c L V th lv va vr) (hA : ArAt w' base p B n c th' va') (hg : w.grownBy w' (some B)) : PS W w' base p B n c L V th' lv va' vr := ⟨h.vv.turn hA hg, h.lv.kept hg h.lb, h.vr.kept hg h.vb, h.lb, h.lp, h.vb, h.vp, h.lvn⟩
theorem PS.putL (h : PS W w base p B n c L V th lv va vr) (k : Nat) (hk : k < n) (x : Bool) : PS W (w.setCell ⟨L, k, none⟩ (.bool x)) base p B n c L V th (upd lv k x) va vr := by
  have hs := h.lv.set k hk x
  refine ⟨⟨?_, h.vv.ar.kept hs.2 (Ne.symm h.lp) (Ne.symm h.lb), h.vv.2.2⟩, hs.1, h.vr.kept hs.2 (Ne.symm h.lvn), h.lb, h.lp, h.vb, h.vp, h.lvn⟩
  exact h.vv.1.grown hs.2 h.vv.1.size (fun j hj => by injection hj with e; have := h.lv.lt.1; omega)
theorem PS.putV (h : PS W w base p B n c L V th lv va vr) (k : Nat) (hk : k < n) (x : Int) : PS W (w.setCell ⟨V, k, none⟩ (.int .i64 x)) base p B n c L V th lv va (upd vr k x) := by
  have hs := h.vr.set k hk x
  refine ⟨⟨?_, h.vv.ar.kept hs.2 (Ne.symm h.vp) (Ne.symm h.vb), h.vv.2.2⟩, h.lv.kept hs.2 h.lvn, hs.1, h.lb, h.lp, h.vb, h.vp, h.lvn⟩
  exact h.vv.1.grown hs.2 h.vv.1.size (fun j hj => by injection hj with e; have := h.vr.lt.1; omega)
end
end Go.Proofs.YtjkbfhojjjkgnaaDoor
