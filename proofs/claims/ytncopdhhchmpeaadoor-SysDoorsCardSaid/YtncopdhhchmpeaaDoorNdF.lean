/-
  Chapter 6's first.
-/
import Derived.Test.YtncopdhhchmpeaaDoorNd3
namespace Go.Proofs.YtncopdhhchmpeaaDoor
open Go.ChangeShapes Go.WideShapes Go.ChangeAt Go.RowKit
set_option linter.unusedVariables false
/-- Nodes over a law's start. -/
structure NV (W0 w : World) (base P p B G n c : Nat) (th : Nat → Bool) (vr_ : Nat → Int) (W : Nat → Nat → Value) : Prop where
  bel : Below W0.heap.size W0 w
  wb : W0.heap.size ≤ base
  nd : NdAt w base P p B G n c th vr_ W
section
variable {W0 w w' : World} {base P p B G n c : Nat} {th th' : Nat → Bool} {vr_ vr' : Nat → Int} {W W' : Nat → Nat → Value}
theorem NV.lo (h : NV W0 w base P p B G n c th vr_ W) : W0.heap.size ≤ B ∧ W0.heap.size ≤ G := ⟨Nat.le_trans h.wb h.nd.ar.lt.1, Nat.le_trans h.wb (h.nd.row.lt G rfl).1⟩
theorem NV.step (h : NV W0 w base P p B G n c th vr_ W) (hb : Below w.heap.size w w') : NV W0 w' base P p B G n c th vr_ W := ⟨h.bel.trans (hb.mono h.bel.size), h.wb, h.nd.below hb⟩
theorem NV.made (h : NV W0 w base P p B G n c th vr_ W) (hP : NdAt w' base P p B G n c th' vr' W') (hb : PBelow w w' B G) : NV W0 w' base P p B G n c th' vr' W' := ⟨h.bel.trans (hb.below h.lo.1 h.lo.2 h.bel.size), h.wb, hP⟩
end
theorem srcK_none (w : World) (B G : Nat) (kk : Nat → Nat → Int) : SrcK w none 0 kk B G := ⟨fun i hi => by omega⟩
theorem freshV_void (W : Nat → Nat → Value) (i : Nat) (kk : Nat → Nat → Int) (b : Nat) (hb : b < 80) : freshV W i (kcs kk 0) i b = zc b := freshV_out W i _ b (by rw [kcs_len]; omega) hb
end Go.Proofs.YtncopdhhchmpeaaDoor
