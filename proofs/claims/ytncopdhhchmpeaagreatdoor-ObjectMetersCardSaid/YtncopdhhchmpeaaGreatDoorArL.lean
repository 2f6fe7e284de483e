/-
  ArenaLeast: the walk.
-/
import Derived.Test.YtncopdhhchmpeaaGreatDoorArV
namespace Go.Proofs.YtncopdhhchmpeaaGreatDoor
open Go.ChangeShapes Go.WideShapes Go.ChangeAt Go.RowKit
set_option linter.unusedVariables false
theorem infoBool : (Tryz.prog.info? 4).map (fun i => (i.zero, i.size, i.bytes)) = some (some (.bool false), 1, 1) := by kernel_rfl
section
variable {W w w' : World} {base p B n c F : Nat} {th th' : Nat → Bool} {vr vr' : Nat → Int} {fr : Nat → Bool}
theorem ArAt.kept (h : ArAt w base p B n c th vr) (hg : w.grownBy w' (some F)) (hp : p ≠ F) (hB : B ≠ F) : ArAt w' base p B n c th vr :=
  ⟨Nat.lt_of_lt_of_le h.pl hg.size, h.pb, (World.cell?_of_block (a := ⟨p, 0, none⟩) (hg.block p h.pl (by simpa using hp))).trans h.fld, h.own.kept hg (.inr (by simpa [Value.ownBlock] using hB)), h.ne, h.le⟩
/-- A row of bools of the law's own. -/
def FR (w : World) (base F n : Nat) (fr : Nat → Bool) : Prop := w.ownsRow base 4 1 (.slice (some ⟨F, 0, none⟩) n n) n ((List.range n).map fun i => Value.bool (fr i))
theorem FR.at (h : FR w base F n fr) (k : Nat) (hk : k < n) : w.cell? ⟨F, k, none⟩ = some (.bool (fr k)) := by
  have := World.ownsRow.cellAt h k (by omega)
  rw [this]
  simp [hk]
theorem FR.lt (h : FR w base F n fr) : base ≤ F ∧ F < w.heap.size := World.ownsRow.lt h F rfl
theorem FR.free (h : FR w base F n fr) (k : Nat) : w.frozen? ⟨F, k, none⟩ = false := World.ownsRow.frozenAt h k
theorem FR.below (h : FR w base F n fr) (hb : Below w.heap.size w w') : FR w' base F n fr := own_below h hb
theorem FR.kept (h : FR w base F n fr) (hg : w.grownBy w' (some B)) (hB : F ≠ B) : FR w' base F n fr := World.ownsRow.kept h hg (.inr (by simpa [Value.ownBlock] using hB))
theorem FR.set (h : FR w base F n fr) (k : Nat) (hk : k < n) (x : Bool) : FR (w.setCell ⟨F, k, none⟩ (.bool x)) base F n (upd fr k x) ∧ w.grownBy (w.setCell ⟨F, k, none⟩ (.bool x)) (some F) := by
  have hs := World.ownsRow.stored h k (.bool x)
  refine ⟨?_, hs.2⟩
  unfold FR
  have e : ((List.range n).map fun i => Value.bool (upd fr k x i)) = ((List.range n).map fun i => Value.bool (fr i)).set k (.bool x) := by
    apply List.ext_getElem?
    intro j
    by_cases hj : j < n
    · by_cases e : j = k
      · subst e
        simp [upd, hj]
      · rw [List.getElem?_set_ne (by omega)]
        simp [upd, e, hj]
    · rw [List.getElem?_eq_none (by simp; omega), List.getElem?_eq_none (by simp; omega)]
  rw [e]
  exact hs.1
end
/-- The law's state: the arena; the row of bools apart from it. -/
structure LS (W w : World) (base p B n c F : Nat) (fr th : Nat → Bool) (vr : Nat → Int) : Prop where
  vv : VV W w base p B n c th vr
  fr : FR w W.heap.size F n fr
  nb : F ≠ B
  np : F ≠ p
section
variable {W w w' : World} {base p B n c F : Nat} {th th' : Nat → Bool} {vr vr' : Nat → Int} {fr fr' : Nat → Bool}
theorem LS.step (h : LS W w base p B n c F fr th vr) (hb : Below w.heap.size w w') : LS W w' base p B n c F fr th vr := ⟨h.vv.step hb, h.fr.below hb, h.nb, h.np⟩
theorem LS.turn (h : LS W w base p B n c F fr th vr) (hA : ArAt w' base p B n c th' vr') (hg : w.grownBy w' (some B)) : LS W w' base p B n c F fr th' vr' := ⟨h.vv.turn hA hg, h.fr.kept hg h.nb, h.nb, h.np⟩
theorem LS.put (h : LS W w base p B n c F fr th vr) (k : Nat) (hk : k < n) (x : Bool) : LS W (w.setCell ⟨F, k, none⟩ (.bool x)) base p B n c F (upd fr k x) th vr := by
  have hs := h.fr.set k hk x
  refine ⟨⟨?_, h.vv.ar.kept hs.2 (Ne.symm h.np) (Ne.symm h.nb), h.vv.2.2⟩, hs.1, h.nb, h.np⟩
  exact h.vv.1.grown hs.2 h.vv.1.size (fun j hj => by injection hj with e; have := h.fr.lt.1; omega)
theorem LS.congr (h : LS W w base p B n c F fr th vr) (h1 : ∀ i, i < n → th i = th' i) (h2 : ∀ i, i < n → vr i = vr' i) : LS W w base p B n c F fr th' vr' := ⟨h.vv.congr h1 h2, h.fr, h.nb, h.np⟩
end
def vrF (fr : Nat → Bool) : Nat → Int := fun i => if fr i = true then 1 else 0
def thF (fr : Nat → Bool) (l : Int) : Nat → Bool := fun i => !fr i || decide ((i : Int) ≤ l)
end Go.Proofs.YtncopdhhchmpeaaGreatDoor
