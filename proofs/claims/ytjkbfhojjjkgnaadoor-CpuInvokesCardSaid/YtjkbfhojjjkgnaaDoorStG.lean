/-
  Chapter 8's first; StoreGone.
-/
import Derived.Test.YtjkbfhojjjkgnaaDoorStR
import Derived.Test.YtjkbfhojjjkgnaaDoorSen
namespace Go.Proofs.YtjkbfhojjjkgnaaDoor
open Go.ChangeShapes Go.WideShapes Go.ChangeAt Go.RowKit
set_option linter.unusedVariables false
/-- A store over a law's start. -/
structure SV (W0 w : World) (S : Nat) (a b : Shp) (th : Nat → Bool) (vr_ : Nat → Int) (W : Nat → Nat → Value) (th2 : Nat → Bool) (vr2 : Nat → Int) (W2 : Nat → Nat → Int) : Prop where
  bel : Below W0.heap.size W0 w
  wb : W0.heap.size ≤ a.b
  st : StAt w S a b th vr_ W th2 vr2 W2
section
variable {W0 w w' : World} {S : Nat} {a b : Shp} {th th' : Nat → Bool} {vr_ vr' : Nat → Int} {W W' : Nat → Nat → Value} {th2 th2' : Nat → Bool} {vr2 vr2' : Nat → Int} {W2 W2' : Nat → Nat → Int}
theorem SV.step (h : SV W0 w S a b th vr_ W th2 vr2 W2) (hb : Below w.heap.size w w') : SV W0 w' S a b th vr_ W th2 vr2 W2 := ⟨h.bel.trans (hb.mono h.bel.size), h.wb, h.st.below hb⟩
theorem SV.node (h : SV W0 w S a b th vr_ W th2 vr2 W2) (hN : NdAt w' a.b a.P a.p a.B a.G a.n a.c th' vr' W') (hb : PBelow w w' a.B a.G) : SV W0 w' S a b th' vr' W' th2 vr2 W2 :=
  ⟨h.bel.trans (hb.below (Nat.le_trans h.wb h.st.nd.ar.lt.1) (Nat.le_trans h.wb (h.st.nd.row.lt a.G rfl).1) h.bel.size), h.wb, h.st.node hN hb⟩
theorem SV.page (h : SV W0 w S a b th vr_ W th2 vr2 W2) (hP : PgAt w' b.b b.P b.p b.B b.G b.n b.c th2' vr2' W2') (hb : PBelow w w' b.B b.G) : SV W0 w' S a b th vr_ W th2' vr2' W2' :=
  ⟨h.bel.trans (hb.below (Nat.le_trans h.wb (Nat.le_trans h.st.ab h.st.pg.ar.lt.1)) (Nat.le_trans h.wb (Nat.le_trans h.st.ab (h.st.pg.row.lt b.G rfl).1)) h.bel.size), h.wb, h.st.page hP hb⟩
end
/-- A key in a block of its own. -/
structure KeyB (w : World) (b : Nat) (k0 k1 k2 k3 k4 : Int) : Prop where
  lt : b < w.heap.size
  c0 : w.cell? ⟨b, 0, none⟩ = some (.int .i64 k0)
  c1 : w.cell? ⟨b, 1, none⟩ = some (.int .i64 k1)
  c2 : w.cell? ⟨b, 2, none⟩ = some (.int .i64 k2)
  c3 : w.cell? ⟨b, 3, none⟩ = some (.int .i64 k3)
  c4 : w.cell? ⟨b, 4, none⟩ = some (.int .u32 k4)
theorem KeyB.same {w w' : World} {b : Nat} {k0 k1 k2 k3 k4 : Int} (h : KeyB w b k0 k1 k2 k3 k4) (hs : w.heap.size ≤ w'.heap.size) (hb : w'.heap[b]? = w.heap[b]?) : KeyB w' b k0 k1 k2 k3 k4 :=
  ⟨Nat.lt_of_lt_of_le h.lt hs, (World.cell?_of_block (a := ⟨b, 0, none⟩) hb).trans h.c0, (World.cell?_of_block (a := ⟨b, 1, none⟩) hb).trans h.c1, (World.cell?_of_block (a := ⟨b, 2, none⟩) hb).trans h.c2, (World.cell?_of_block (a := ⟨b, 3, none⟩) hb).trans h.c3, (World.cell?_of_block (a := ⟨b, 4, none⟩) hb).trans h.c4⟩
theorem KeyB.below {w w' : World} {b : Nat} {k0 k1 k2 k3 k4 : Int} (h : KeyB w b k0 k1 k2 k3 k4) (hb : Below w.heap.size w w') : KeyB w' b k0 k1 k2 k3 k4 := h.same hb.size (hb.block b h.lt)
theorem KeyB.made {w w' : World} {b B G : Nat} {k0 k1 k2 k3 k4 : Int} (h : KeyB w b k0 k1 k2 k3 k4) (hb : PBelow w w' B G) (hB : b ≠ B) (hG : b ≠ G) : KeyB w' b k0 k1 k2 k3 k4 := h.same hb.2.2.2.1 (hb.2.2.2.2 b h.lt hB hG)
theorem KeyB.new (w : World) (k0 k1 k2 k3 k4 : Int) (T : TypeId) : KeyB (w.alloc (.cells #[.int .i64 k0, .int .i64 k1, .int .i64 k2, .int .i64 k3, .int .u32 k4] T (0, 0))) w.heap.size k0 k1 k2 k3 k4 := ⟨by simp, by simp, by simp, by simp, by simp, by simp⟩
end Go.Proofs.YtjkbfhojjjkgnaaDoor
