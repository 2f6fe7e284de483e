/-
  St2, Pa3, Sy, Sy2, Sy3, Pa, Pa4, Pa5, St3, Pa6, Pa7, Wy, Pa8, Pa9, PaN, Ca, Ca2, Ca3, Ca4, Me, Me2, Me3, Me4, Mf, Mg, Bk4, Bk5, Bk6, Bk7, Bk8, Bk9, BkA, BkD, Ds2, Ds3, Ds4, BkP, BkE, BkF: what BankEnds reaches of them.
-/
import Derived.Test.YtagiabcmbihoaaaDoorQE1
namespace Go.Proofs.YtagiabcmbihoaaaDoor
open Go.ChangeShapes Go.WideShapes Go.ChangeAt Go.RowKit
set_option linter.unusedVariables false
/-- A key's cells. -/
structure KeyC (w : World) (b : Nat) (k0 k1 k2 k3 k4 : Int) : Prop where
  lt : b < w.heap.size
  c0 : w.cell? ⟨b, 0, none⟩ = some (.int .i64 k0)
  c1 : w.cell? ⟨b, 1, none⟩ = some (.int .i64 k1)
  c2 : w.cell? ⟨b, 2, none⟩ = some (.int .i64 k2)
  c3 : w.cell? ⟨b, 3, none⟩ = some (.int .i64 k3)
  c4 : w.cell? ⟨b, 4, none⟩ = some (.int .u32 k4)
  fr : ∀ j, w.frozen? ⟨b, j, none⟩ = false
theorem KeyC.below {w w' : World} {b : Nat} {k0 k1 k2 k3 k4 : Int} (h : KeyC w b k0 k1 k2 k3 k4) (hb : Below w.heap.size w w') : KeyC w' b k0 k1 k2 k3 k4 :=
  ⟨Nat.lt_of_lt_of_le h.lt hb.size, (hb.cell (p := ⟨b, 0, none⟩) h.lt).trans h.c0, (hb.cell (p := ⟨b, 1, none⟩) h.lt).trans h.c1, (hb.cell (p := ⟨b, 2, none⟩) h.lt).trans h.c2, (hb.cell (p := ⟨b, 3, none⟩) h.lt).trans h.c3, (hb.cell (p := ⟨b, 4, none⟩) h.lt).trans h.c4, fun j => (hb.frozen (p := ⟨b, j, none⟩) h.lt).trans (h.fr j)⟩
theorem KeyC.new (w : World) (k0 k1 k2 k3 k4 : Int) (T : TypeId) : KeyC (w.alloc (.cells #[.int .i64 k0, .int .i64 k1, .int .i64 k2, .int .i64 k3, .int .u32 k4] T (0, 0))) w.heap.size k0 k1 k2 k3 k4 := ⟨by simp, by simp, by simp, by simp, by simp, by simp, fun j => by simp⟩
theorem KeyC.of {w w' : World} {k0 k1 k2 k3 k4 : Int} {T : TypeId} {o : Obj} (hb : Below ((w.alloc (.cells #[.int .i64 k0, .int .i64 k1, .int .i64 k2, .int .i64 k3, .int .u32 k4] T (0, 0))).alloc o).heap.size ((w.alloc (.cells #[.int .i64 k0, .int .i64 k1, .int .i64 k2, .int .i64 k3, .int .u32 k4] T (0, 0))).alloc o) w') : KeyC w' w.heap.size k0 k1 k2 k3 k4 :=
  (((KeyC.new w k0 k1 k2 k3 k4 T).below ((Below.refl _ _).alloc (Nat.le_refl _) o))).below hb
theorem KeyC.set {w : World} {b : Nat} {y0 y1 y2 y3 y4 : Int} (h : KeyC w b y0 y1 y2 y3 y4) (z0 z1 z2 z3 z4 : Int) :
    KeyC (((((w.setCell ⟨b, 0, none⟩ (.int .i64 z0)).setCell ⟨b, 1, none⟩ (.int .i64 z1)).setCell ⟨b, 2, none⟩ (.int .i64 z2)).setCell ⟨b, 3, none⟩ (.int .i64 z3)).setCell ⟨b, 4, none⟩ (.int .u32 z4)) b z0 z1 z2 z3 z4 := by
  have hs : ∀ j, j < (k5 z0 z1 z2 z3 z4).length → (w.cell? ⟨b, 0 + j, none⟩).isSome = true := by
    intro j hj
    have hj' : j = 0 ∨ j = 1 ∨ j = 2 ∨ j = 3 ∨ j = 4 := by simp [k5] at hj; omega
    rw [Nat.zero_add]
    rcases hj' with rfl | rfl | rfl | rfl | rfl
    · rw [h.c0]; rfl
    · rw [h.c1]; rfl
    · rw [h.c2]; rfl
    · rw [h.c3]; rfl
    · rw [h.c4]; rfl
  have all := World.cell?_setCells_in b (k5 z0 z1 z2 z3 z4) 0 w hs
  have hz : (w.setCells b 0 (k5 z0 z1 z2 z3 z4)).heap.size = w.heap.size := by simp [k5, World.setCells]
  exact ⟨Nat.lt_of_lt_of_le h.lt (Nat.le_of_eq hz.symm), all 0 (by simp [k5]), all 1 (by simp [k5]), all 2 (by simp [k5]), all 3 (by simp [k5]), all 4 (by simp [k5]), fun j => (World.frozen?_setCells b (k5 z0 z1 z2 z3 z4) 0 w ⟨b, j, none⟩).trans (h.fr j)⟩
section
variable {w X Y : World} {S P : Nat} {k1 : Int}
end
end Go.Proofs.YtagiabcmbihoaaaDoor
namespace Go.Proofs.YtagiabcmbihoaaaDoor
open Go.ChangeShapes Go.WideShapes Go.ChangeAt Go.RowKit
set_option linter.unusedVariables false
set_option linter.unusedSimpArgs false
/-- What rights make read-only. -/
def roB (k3 : Int) : Bool := bits BinOp.and IntKind.i64 k3 5 != 0
/-- A way: from a key, found below such a height, to a place or a fault, through nodes. -/
inductive Way (a b : Shp) (th : Nat → Bool) (vr_ : Nat → Int) (W : Nat → Nat → Value) (th2 : Nat → Bool) (vr2 : Nat → Int) : Int → Int → Int → Int → Int → Int → Int → Bool → List Int → Int → Int → Bool → Int → Prop
  | fault {k0 k1 k2 k3 k4 below addr : Int} {ro : Bool} (s : Int) (t l : Bool) (f : Int) (h0 : 0 ≤ k4) (hs : szP k0 k4 = s ∧ szB k0 k4 = t) (hl : liveB a b th vr_ th2 vr2 k0 k1 k2 = l) (hz : entP s t l k0 k4 below addr = (0, f)) (hf : (f != 0) = true) : Way a b th vr_ W th2 vr2 k0 k1 k2 k3 k4 below addr ro [] 0 0 false f
  | page {k1 k2 k3 k4 below addr : Int} {ro : Bool} (h0 : 0 ≤ k4) (a0 : 0 ≤ addr) (hl : liveB a b th vr_ th2 vr2 3 k1 k2 = true) (ha : addr < 32) : Way a b th vr_ W th2 vr2 3 k1 k2 k3 k4 below addr ro [] k1 addr (ro || roB k3) 0
  | node {k1 k2 k3 k4 below addr : Int} {ro : Bool} {ids : List Int} {pg at_ : Int} {r : Bool} {f : Int} (h i q r' p ad : Nat) (y0 y1 y2 y3 y4 : Int) (hk : k4 = h) (hp : p = 2 * 16 ^ h) (ha : addr = ad) (had : ad = q * p + r') (h1 : 1 ≤ h) (h4 : h ≤ 4) (hl : liveB a b th vr_ th2 vr2 2 k1 k2 = true) (hd : (h : Int) < below) (hi : k1 = i) (hn : i < a.n) (ht : th i = true) (hq : q < 16) (hr : r' < p) (hy : KAt (W i) q y0 y1 y2 y3 y4) (next : Way a b th vr_ W th2 vr2 y0 y1 y2 y3 y4 h r' (ro || roB k3) ids pg at_ r f) : Way a b th vr_ W th2 vr2 2 k1 k2 k3 k4 below addr ro (k1 :: ids) pg at_ r f
/-- A place's cells. -/
structure PlC (w : World) (b : Nat) (x y : Int) (r : Bool) : Prop where
  lt : b < w.heap.size
  c0 : w.cell? ⟨b, 0, none⟩ = some (.int .i64 x)
  c1 : w.cell? ⟨b, 1, none⟩ = some (.int .i64 y)
  c2 : w.cell? ⟨b, 2, none⟩ = some (.bool r)
  fr : ∀ j, w.frozen? ⟨b, j, none⟩ = false
theorem PlC.below {w w' : World} {b : Nat} {x y : Int} {r : Bool} (h : PlC w b x y r) (hb : Below w.heap.size w w') : PlC w' b x y r :=
  ⟨Nat.lt_of_lt_of_le h.lt hb.size, (hb.cell (p := ⟨b, 0, none⟩) h.lt).trans h.c0, (hb.cell (p := ⟨b, 1, none⟩) h.lt).trans h.c1, (hb.cell (p := ⟨b, 2, none⟩) h.lt).trans h.c2, fun j => (hb.frozen (p := ⟨b, j, none⟩) h.lt).trans (h.fr j)⟩
theorem PlC.new (w : World) (x y : Int) (r : Bool) (T : TypeId) : PlC (w.alloc (.cells #[.int .i64 x, .int .i64 y, .bool r] T (0, 0))) w.heap.size x y r := ⟨by simp, by simp, by simp, by simp, fun j => by simp⟩
theorem PlC.set {w : World} {b : Nat} {x y : Int} {r : Bool} (h : PlC w b x y r) (x' y' : Int) (r' : Bool) : PlC (((w.setCell ⟨b, 0, none⟩ (.int .i64 x')).setCell ⟨b, 1, none⟩ (.int .i64 y')).setCell ⟨b, 2, none⟩ (.bool r')) b x' y' r' := by
  have hs : ∀ j, j < [Value.int .i64 x', .int .i64 y', .bool r'].length → (w.cell? ⟨b, 0 + j, none⟩).isSome = true := by
    intro j hj
    have hj' : j = 0 ∨ j = 1 ∨ j = 2 := by simp at hj; omega
    rw [Nat.zero_add]
    rcases hj' with rfl | rfl | rfl
    · rw [h.c0]; rfl
    · rw [h.c1]; rfl
    · rw [h.c2]; rfl
  have all := World.cell?_setCells_in b [Value.int .i64 x', .int .i64 y', .bool r'] 0 w hs
  have hz : (w.setCells b 0 [Value.int .i64 x', .int .i64 y', .bool r']).heap.size = w.heap.size := by simp [World.setCells]
  exact ⟨Nat.lt_of_lt_of_le h.lt (Nat.le_of_eq hz.symm), all 0 (by simp), all 1 (by simp), all 2 (by simp), fun j => (World.frozen?_setCells b [Value.int .i64 x', .int .i64 y', .bool r'] 0 w ⟨b, j, none⟩).trans (h.fr j)⟩
end Go.Proofs.YtagiabcmbihoaaaDoor
namespace Go.Proofs.YtagiabcmbihoaaaDoor
open Go.ChangeShapes Go.WideShapes Go.ChangeAt Go.RowKit
set_option linter.unusedVariables false
/-- A place. -/
def slW (lv gn : Nat → Bool) (vr ow : Nat → Int) : Nat → Nat → Value := fun i j => if j = 0 then .bool (lv i) else if j = 1 then .bool (gn i) else if j = 2 then .int .i64 (vr i) else .int .i64 (ow i)
/-- The shape of a system: where it lies; nodes, pages: how many, their places, their cells. -/
structure SyS where
  x : Nat
  n : Nat
  m : Nat
  gN : Nat
  cN : Nat
  gP : Nat
  cP : Nat
  bN : Nat
  bP : Nat
/-- What a system holds: of its nodes' places (there, gone, version, owner), its pages' places, keys, words. -/
structure SyD where
  lN : Nat → Bool
  dN : Nat → Bool
  vN : Nat → Int
  oN : Nat → Int
  lP : Nat → Bool
  dP : Nat → Bool
  vP : Nat → Int
  oP : Nat → Int
  wN : Nat → Nat → Value
  wP : Nat → Nat → Int
def wordsW (f : Nat → Nat → Int) : Nat → Nat → Value := fun i j => .int .u32 (f i j)
section
variable {w w' : World} {base : Nat} {S : SyS} {d : SyD}
end
end Go.Proofs.YtagiabcmbihoaaaDoor
namespace Go.Proofs.YtagiabcmbihoaaaDoor
open Go.ChangeShapes Go.WideShapes Go.ChangeAt Go.RowKit
set_option linter.unusedVariables false
theorem own_shape' {w : World} {B E s n : Nat} {v : Value} {xs : List Value} (h : w.ownsRow B E s v n xs) : ∃ a c, v = .slice a n c := by
  rcases h.2 with ⟨rfl, rfl⟩ | ⟨g, cap, cur, rfl, _⟩
  · exact ⟨_, _, rfl⟩
  · exact ⟨_, _, rfl⟩
theorem own_base {w : World} {B B' E s n : Nat} {v : Value} {xs : List Value} (h : w.ownsRow B E s v n xs) (hB : B' ≤ B) : w.ownsRow B' E s v n xs := by
  refine ⟨h.1, ?_⟩
  rcases h.2 with hn | ⟨g1, cap, cur, e, hg, rest⟩
  · exact .inl hn
  · exact .inr ⟨g1, cap, cur, e, Nat.le_trans hB hg, rest⟩
section
variable {w6 w w' : World} {x : Nat}
end
def C4 (w : World) (x : Nat) (v0 v1 v6 v7 : Value) : Prop := w.cell? ⟨x, 0, none⟩ = some v0 ∧ w.cell? ⟨x, 1, none⟩ = some v1 ∧ w.cell? ⟨x, 6, none⟩ = some v6 ∧ w.cell? ⟨x, 7, none⟩ = some v7
end Go.Proofs.YtagiabcmbihoaaaDoor
namespace Go.Proofs.YtagiabcmbihoaaaDoor
open Go.ChangeShapes Go.WideShapes Go.ChangeAt Go.RowKit
set_option linter.unusedVariables false
/-- A page with its first k of two words. -/
def pg2 (W : Nat → Nat → Int) (j : Nat) (x y : Int) (k : Nat) : Nat → Nat → Int := fun a b => if a = j then (if b = 0 ∧ 0 < k then x else if b = 1 ∧ 1 < k then y else 0) else W a b
end Go.Proofs.YtagiabcmbihoaaaDoor
namespace Go.Proofs.YtagiabcmbihoaaaDoor
open Go.ChangeShapes Go.WideShapes Go.ChangeAt Go.RowKit
set_option linter.unusedVariables false
end Go.Proofs.YtagiabcmbihoaaaDoor
namespace Go.Proofs.YtagiabcmbihoaaaDoor
open Go.ChangeShapes Go.WideShapes Go.ChangeAt Go.RowKit
set_option linter.unusedVariables false
/-- Which pages are there. -/
def th9 (k : Nat) : Nat → Bool := if k = 0 then fun _ => false else upd (fun _ => false) 0 true
theorem KeyC.same {w w' : World} {b : Nat} {k0 k1 k2 k3 k4 : Int} (h : KeyC w b k0 k1 k2 k3 k4) (hs : w.heap.size ≤ w'.heap.size) (hb : w'.heap[b]? = w.heap[b]?) : KeyC w' b k0 k1 k2 k3 k4 :=
  ⟨Nat.lt_of_lt_of_le h.lt hs, (World.cell?_of_block (a := ⟨b, 0, none⟩) hb).trans h.c0, (World.cell?_of_block (a := ⟨b, 1, none⟩) hb).trans h.c1, (World.cell?_of_block (a := ⟨b, 2, none⟩) hb).trans h.c2, (World.cell?_of_block (a := ⟨b, 3, none⟩) hb).trans h.c3, (World.cell?_of_block (a := ⟨b, 4, none⟩) hb).trans h.c4, fun j => (World.frozen?_of_block (a := ⟨b, j, none⟩) hb).trans (h.fr j)⟩
section
variable {w w' : World} {S : Nat} {a b : Shp} {th : Nat → Bool} {vr_ : Nat → Int} {W : Nat → Nat → Value} {th2 : Nat → Bool} {vr2 : Nat → Int} {W2 : Nat → Nat → Int}
/-- What is written below a store leaves it. -/
theorem StAt.low (h : (StAt w S a b th vr_ W th2 vr2 W2)) (hs : w.heap.size ≤ w'.heap.size) (hk : ∀ k, a.b ≤ k → k < w.heap.size → w'.heap[k]? = w.heap[k]?) : (StAt w' S a b th vr_ W th2 vr2 W2) := by
  have hS := hk S (Nat.le_trans h.ab h.hs.1) h.sl
  have g1 := h.nd.ar.lt
  have g2 := h.nd.row.lt a.G rfl
  have g3 := h.pg.ar.lt
  have g4 := h.pg.row.lt b.G rfl
  have g5 := h.ab
  refine ⟨(World.cell?_of_block (a := ⟨S, 0, none⟩) hS).trans h.s0, (World.cell?_of_block (a := ⟨S, 1, none⟩) hS).trans h.s1, Nat.lt_of_lt_of_le h.sl hs, ?_, ?_, h.ab, h.hi, h.hs⟩
  · exact h.nd.same hs (hk _ h.nd.pb h.nd.pl) (hk _ h.nd.ar.pb h.nd.ar.pl) (hk _ g1.1 g1.2) (hk _ g2.1 g2.2)
  · exact h.pg.same hs (hk _ (Nat.le_trans g5 h.pg.pb) h.pg.pl) (hk _ (Nat.le_trans g5 h.pg.ar.pb) h.pg.ar.pl) (hk _ (Nat.le_trans g5 g3.1) g3.2) (hk _ (Nat.le_trans g5 g4.1) g4.2)
end
end Go.Proofs.YtagiabcmbihoaaaDoor
namespace Go.Proofs.YtagiabcmbihoaaaDoor
open Go.ChangeShapes Go.WideShapes Go.ChangeAt Go.RowKit
set_option linter.unusedVariables false
end Go.Proofs.YtagiabcmbihoaaaDoor
namespace Go.Proofs.YtagiabcmbihoaaaDoor
open Go.ChangeShapes Go.WideShapes Go.ChangeAt Go.RowKit
set_option linter.unusedVariables false
theorem PBelow.low {w w' w'' : World} {B G : Nat} (h : PBelow w w' B G) (h2 : Below w.heap.size w' w'') : PBelow w w'' B G :=
  ⟨h2.os.trans h.1, h2.tape.trans h.2.1, h2.output.trans h.2.2.1, Nat.le_trans h.2.2.2.1 h2.size, fun k hk h3 h4 => (h2.block k hk).trans (h.2.2.2.2 k hk h3 h4)⟩
section
variable {w w' : World} {k0 k1 k2 k3 k4 x0 x1 x2 x3 x4 z0 z1 z2 z3 z4 : Int} {T : TypeId}
end
end Go.Proofs.YtagiabcmbihoaaaDoor
namespace Go.Proofs.YtagiabcmbihoaaaDoor
open Go.ChangeShapes Go.WideShapes Go.ChangeAt Go.RowKit
set_option linter.unusedVariables false
/-- A store's blocks lie below N. -/
structure StLo (S : Nat) (a b : Shp) (N : Nat) : Prop where
  s : S < N
  n : a.P < N ∧ a.p < N ∧ a.B < N ∧ a.G < N
  p : b.P < N ∧ b.p < N ∧ b.B < N ∧ b.G < N
section
variable {w0 w w' : World} {S : Nat} {a b : Shp} {th : Nat → Bool} {vr_ : Nat → Int} {W : Nat → Nat → Value} {th2 : Nat → Bool} {vr2 : Nat → Int} {W2 : Nat → Nat → Int} {N : Nat}
theorem StAt.lo (h : (StAt w S a b th vr_ W th2 vr2 W2)) : StLo S a b w.heap.size := ⟨h.sl, ⟨h.nd.pl, h.nd.ar.pl, h.nd.ar.lt.2, (h.nd.row.lt a.G rfl).2⟩, ⟨h.pg.pl, h.pg.ar.pl, h.pg.ar.lt.2, (h.pg.row.lt b.G rfl).2⟩⟩
theorem StLo.mono {M : Nat} (h : StLo S a b N) (hm : N ≤ M) : StLo S a b M := by
  have h1 := h.s
  have h2 := h.n
  have h3 := h.p
  exact ⟨by omega, by omega, by omega⟩
theorem StAt.under (h : (StAt w S a b th vr_ W th2 vr2 W2)) (hl : StLo S a b N) (hs : w.heap.size ≤ w'.heap.size) (hk : ∀ k, k < N → w'.heap[k]? = w.heap[k]?) : (StAt w' S a b th vr_ W th2 vr2 W2) := by
  have hS := hk S hl.s
  refine ⟨(World.cell?_of_block (a := ⟨S, 0, none⟩) hS).trans h.s0, (World.cell?_of_block (a := ⟨S, 1, none⟩) hS).trans h.s1, Nat.lt_of_lt_of_le h.sl hs, ?_, ?_, h.ab, h.hi, h.hs⟩
  · exact h.nd.same hs (hk _ hl.n.1) (hk _ hl.n.2.1) (hk _ hl.n.2.2.1) (hk _ hl.n.2.2.2)
  · exact h.pg.same hs (hk _ hl.p.1) (hk _ hl.p.2.1) (hk _ hl.p.2.2.1) (hk _ hl.p.2.2.2)
theorem set_heap (w : World) (g k j : Nat) (u : Value) (h : k ≠ g) : (w.setCell ⟨g, j, none⟩ u).heap[k]? = w.heap[k]? := Below.heap_setCell _ _ _ _ h
theorem SV.put1 (h : SV w0 w S a b th vr_ W th2 vr2 W2) (hl : StLo S a b N) (g j : Nat) (hg : N ≤ g) (h0 : w0.heap.size ≤ N) (u : Value) : SV w0 (w.setCell ⟨g, j, none⟩ u) S a b th vr_ W th2 vr2 W2 :=
  ⟨h.bel.setCell (Nat.le_trans h0 hg) _, h.wb, h.st.under hl (by simp) (fun k hk => set_heap _ _ _ _ _ (by omega))⟩
end
theorem KeyC.set3 {w : World} {b : Nat} {k0 k1 k2 k3 k4 : Int} (h : KeyC w b k0 k1 k2 k3 k4) (z : Int) : KeyC (w.setCell ⟨b, 3, none⟩ (.int .i64 z)) b k0 k1 k2 z k4 := by
  refine ⟨by simpa using h.lt, ?_, ?_, ?_, ?_, ?_, fun j => by simpa using h.fr j⟩
  · rw [World.cell?_setCell_other _ _ _ _ (by simp)]; exact h.c0
  · rw [World.cell?_setCell_other _ _ _ _ (by simp)]; exact h.c1
  · rw [World.cell?_setCell_other _ _ _ _ (by simp)]; exact h.c2
  · exact World.cell?_setCell_same _ _ _ h.c3
  · rw [World.cell?_setCell_other _ _ _ _ (by simp)]; exact h.c4
/-- A way that ends well is one in a store that has more nodes. -/
theorem Way.more {a b : Shp} {th th' : Nat → Bool} {vr_ : Nat → Int} {W W' : Nat → Nat → Value} {th2 : Nat → Bool} {vr2 : Nat → Int} (hn : ∀ i, i < a.n → th i = true → th' i = true ∧ ∀ j y0 y1 y2 y3 y4, KAt (W i) j y0 y1 y2 y3 y4 → KAt (W' i) j y0 y1 y2 y3 y4)
    {k0 k1 k2 k3 k4 below addr : Int} {ro : Bool} {ids : List Int} {pg at_ : Int} {r : Bool} {f : Int} (h : Way a b th vr_ W th2 vr2 k0 k1 k2 k3 k4 below addr ro ids pg at_ r f) (hf : f = 0) : Way a b th' vr_ W' th2 vr2 k0 k1 k2 k3 k4 below addr ro ids pg at_ r f := by
  induction h with
  | fault s t l f h0 hs hl hz hf' => subst hf; simp at hf'
  | page h0 a0 hl ha => exact .page h0 a0 hl ha
  | node h i q r' p ad y0 y1 y2 y3 y4 hk hp ha had h1 h4 hl hd hi hn' ht hq hr hy next ih =>
    have hx := hn i hn' ht
    refine .node h i q r' p ad y0 y1 y2 y3 y4 hk hp ha had h1 h4 ?_ hd hi hn' hx.1 hq hr (hx.2 _ _ _ _ _ _ hy) (ih hf)
    subst hi
    simp [liveB, thereB, ht, hx.1] at hl ⊢
    exact hl
end Go.Proofs.YtagiabcmbihoaaaDoor
namespace Go.Proofs.YtagiabcmbihoaaaDoor
open Go.ChangeShapes Go.WideShapes Go.ChangeAt Go.RowKit
set_option linter.unusedVariables false
/-- Node i of some: each slot holds a key. -/
def All16 (f : Nat → Value) : Prop := ∀ j, j < 16 → ∃ y0 y1 y2 y3 y4, KAt f j y0 y1 y2 y3 y4
theorem All16.one {f : Nat → Value} (h : All16 f) : ∀ b, b < 80 → (f b).oneCell' = true := KAt.one h
theorem All16.set {W : Nat → Nat → Value} {i : Nat} (h : All16 (W i)) (k s : Nat) (y0 y1 y2 y3 y4 : Int) : All16 (updV W k (s * 5) (k5 y0 y1 y2 y3 y4) i) := fun j hj => by
  by_cases e : i = k ∧ j = s
  · obtain ⟨rfl, rfl⟩ := e
    exact ⟨_, _, _, _, _, updV_key W i j y0 y1 y2 y3 y4⟩
  · obtain ⟨x0, x1, x2, x3, x4, hx⟩ := h j hj
    exact ⟨x0, x1, x2, x3, x4, updV_rest W k s i j y0 y1 y2 y3 y4 e hx⟩
theorem All16.fresh (W : Nat → Nat → Value) (i : Nat) (kk : Nat → Nat → Int) : All16 (freshV W i (kcs kk 0) i) := fun j hj => ⟨_, _, _, _, _, freshV_nokey W i kk 0 j (Nat.zero_le _) hj⟩
theorem All16.rest {W : Nat → Nat → Value} {a : Nat} (h : All16 (W a)) (i : Nat) (xs : List Value) (hne : a ≠ i) : All16 (freshV W i xs a) := fun j hj => by
  obtain ⟨x0, x1, x2, x3, x4, hx⟩ := h j hj
  exact ⟨x0, x1, x2, x3, x4, freshV_rest W i xs a j hne hx⟩
theorem fit64 {a : Int} (h : (Lit.int .i64 a).wf = true) : -9223372036854775808 ≤ a ∧ a ≤ 9223372036854775807 := by simpa [Lit.wf, IntKind.min, IntKind.max, IntKind.signed, IntKind.bits] using h
end Go.Proofs.YtagiabcmbihoaaaDoor
namespace Go.Proofs.YtagiabcmbihoaaaDoor
open Go.ChangeShapes Go.WideShapes Go.ChangeAt Go.RowKit
set_option linter.unusedVariables false
section
variable {a b : Shp} {th : Nat → Bool} {vr_ : Nat → Int} {W : Nat → Nat → Value} {th2 : Nat → Bool} {vr2 : Nat → Int}
/-- All addresses of one page's words go one way. -/
theorem Way.sheet {k0 k1 k2 k3 k4 below addr : Int} {ro : Bool} {ids : List Int} {pg at_ : Int} {r : Bool} {f : Int} (h : Way a b th vr_ W th2 vr2 k0 k1 k2 k3 k4 below addr ro ids pg at_ r f) (hf : f = 0) : at_ = addr % 32 ∧ ∀ x : Int, 0 ≤ x → x < 32 → Way a b th vr_ W th2 vr2 k0 k1 k2 k3 k4 below (addr / 32 * 32 + x) ro ids pg x r f := by
  induction h with
  | fault s t l f h0 hs hl hz hf' => subst hf; simp at hf'
  | page h0 a0 hl ha =>
    refine ⟨by omega, fun x x0 x1 => ?_⟩
    rename_i addr' _
    rw [show addr' / 32 * 32 + x = x by omega]
    exact .page h0 x0 hl x1
  | node h i q r0 p ad y0 y1 y2 y3 y4 hk hp ha had h1 h4 hl hd hi hn ht hq hr hy next ih =>
    obtain ⟨e, g⟩ := ih hf
    obtain ⟨c, hc⟩ : ∃ c, p = c * 32 := by
      have h5 : h = 1 ∨ h = 2 ∨ h = 3 ∨ h = 4 := by omega
      rcases h5 with rfl | rfl | rfl | rfl
      · exact ⟨1, by rw [hp]⟩
      · exact ⟨16, by rw [hp]⟩
      · exact ⟨256, by rw [hp]⟩
      · exact ⟨4096, by rw [hp]⟩
    have hqp : q * p = q * c * 32 := by rw [hc, Nat.mul_assoc]
    obtain ⟨u, hu⟩ : ∃ u, q * c = u := ⟨_, rfl⟩
    rw [hu] at hqp
    refine ⟨by omega, fun x x0 x1 => ?_⟩
    have gx := g x x0 x1
    obtain ⟨y, rfl⟩ := Int.eq_ofNat_of_zero_le x0
    rw [show ((r0 : Nat) : Int) / 32 * 32 + ((y : Nat) : Int) = ((r0 / 32 * 32 + y : Nat) : Int) by omega] at gx
    refine .node h i q (r0 / 32 * 32 + y) p (q * p + (r0 / 32 * 32 + y)) y0 y1 y2 y3 y4 hk hp ?_ rfl h1 h4 hl hd hi hn ht hq (by omega) hy gx
    rw [ha, had]
    omega
/-- Nodes that a way does not go through may be turned. -/
theorem Way.keep {th' : Nat → Bool} {W' : Nat → Nat → Value} {k0 k1 k2 k3 k4 below addr : Int} {ro : Bool} {ids : List Int} {pg at_ : Int} {r : Bool} {f : Int} (h : Way a b th vr_ W th2 vr2 k0 k1 k2 k3 k4 below addr ro ids pg at_ r f) (hf : f = 0)
    (hn : ∀ i : Nat, (i : Int) ∈ ids → i < a.n → th i = true → th' i = true ∧ ∀ j y0 y1 y2 y3 y4, KAt (W i) j y0 y1 y2 y3 y4 → KAt (W' i) j y0 y1 y2 y3 y4) : Way a b th' vr_ W' th2 vr2 k0 k1 k2 k3 k4 below addr ro ids pg at_ r f := by
  induction h with
  | fault s t l f h0 hs hl hz hf' => subst hf; simp at hf'
  | page h0 a0 hl ha => exact .page h0 a0 hl ha
  | node h i q r0 p ad y0 y1 y2 y3 y4 hk hp ha had h1 h4 hl hd hi hn' ht hq hr hy next ih =>
    have hx := hn i (by rw [hi]; exact .head _) hn' ht
    refine .node h i q r0 p ad y0 y1 y2 y3 y4 hk hp ha had h1 h4 ?_ hd hi hn' hx.1 hq hr (hx.2 _ _ _ _ _ _ hy) (ih hf (fun j hj => hn j (.tail _ hj)))
    subst hi
    simp [liveB, thereB, ht, hx.1] at hl ⊢
    exact hl
end
end Go.Proofs.YtagiabcmbihoaaaDoor
namespace Go.Proofs.YtagiabcmbihoaaaDoor
open Go.ChangeShapes Go.WideShapes Go.ChangeAt Go.RowKit
set_option linter.unusedVariables false
set_option linter.unusedSimpArgs false
/-- A slice of numbers, of one's own, in a variable that is caught. -/
structure IdAt (W0 w : World) (ib : Nat) (v : Value) (l : List Int) : Prop where
  bel : Below W0.heap.size W0 w
  ib0 : W0.heap.size ≤ ib
  ibl : ib < w.heap.size
  c : w.cell? ⟨ib, 0, none⟩ = some v
  fr : w.frozen? ⟨ib, 0, none⟩ = false
  row : w.ownsRow W0.heap.size 3 1 v l.length (l.map (Value.int .i64))
  ne : ∀ g, v.ownBlock = some g → g ≠ ib
theorem IdAt.same {W0 w w' : World} {ib : Nat} {v : Value} {l : List Int} (h : IdAt W0 w ib v l) (hb : Below W0.heap.size W0 w') (hs : w.heap.size ≤ w'.heap.size) (h1 : w'.heap[ib]? = w.heap[ib]?) (h2 : ∀ g, v.ownBlock = some g → w'.heap[g]? = w.heap[g]?) : IdAt W0 w' ib v l :=
  ⟨hb, h.ib0, Nat.lt_of_lt_of_le h.ibl hs, (World.cell?_of_block (a := ⟨ib, 0, none⟩) h1).trans h.c, (World.frozen?_of_block (a := ⟨ib, 0, none⟩) h1).trans h.fr, row_same' h.row h2, h.ne⟩
theorem IdAt.below {W0 w w' : World} {ib : Nat} {v : Value} {l : List Int} (h : IdAt W0 w ib v l) (hb : Below w.heap.size w w') : IdAt W0 w' ib v l :=
  h.same (h.bel.trans (hb.mono h.bel.size)) hb.size (hb.block ib h.ibl) (fun g hg => hb.block g (h.row.lt g hg).2)
theorem IdAt.put {W0 w : World} {ib : Nat} {v : Value} {l : List Int} (h : IdAt W0 w ib v l) (g j : Nat) (h1 : ib ≠ g) (h2 : v.ownBlock ≠ some g) (h0 : W0.heap.size ≤ g) (u : Value) : IdAt W0 (w.setCell ⟨g, j, none⟩ u) ib v l :=
  h.same (h.bel.setCell h0 _) (by simp) (set_heap _ _ _ _ _ h1) (fun k hk => set_heap _ _ _ _ _ (fun e => h2 (by rw [hk, e])))
/-- The row lies in no box of the walk. -/
def OwnFar (v : Value) (n : Nat) : Prop := v.ownBlock ≠ some (n + 1 + 1) ∧ v.ownBlock ≠ some (n + 1)
theorem OwnFar.next {v v' : Value} {n m : Nat} (h : OwnFar v n) (hm : n + 1 + 1 < m) (hv : v'.ownBlock = v.ownBlock ∨ ∃ g, m ≤ g ∧ v'.ownBlock = some g) : OwnFar v' n := by
  rcases hv with e | ⟨g, hg, e⟩
  · unfold OwnFar; rw [e]; exact h
  · unfold OwnFar; rw [e]; exact ⟨fun x => by injection x with x; omega, fun x => by injection x with x; omega⟩
theorem PlC.same {w w' : World} {b : Nat} {x y : Int} {r : Bool} (h : PlC w b x y r) (hs : w.heap.size ≤ w'.heap.size) (e : w'.heap[b]? = w.heap[b]?) : PlC w' b x y r :=
  ⟨Nat.lt_of_lt_of_le h.lt hs, (World.cell?_of_block (a := ⟨b, 0, none⟩) e).trans h.c0, (World.cell?_of_block (a := ⟨b, 1, none⟩) e).trans h.c1, (World.cell?_of_block (a := ⟨b, 2, none⟩) e).trans h.c2, fun j => (World.frozen?_of_block (a := ⟨b, j, none⟩) e).trans (h.fr j)⟩
end Go.Proofs.YtagiabcmbihoaaaDoor
namespace Go.Proofs.YtagiabcmbihoaaaDoor
open Go.ChangeShapes Go.WideShapes Go.ChangeAt Go.RowKit
set_option linter.unusedVariables false
set_option linter.unusedSimpArgs false
end Go.Proofs.YtagiabcmbihoaaaDoor
namespace Go.Proofs.YtagiabcmbihoaaaDoor
open Go.ChangeShapes Go.WideShapes Go.ChangeAt Go.RowKit
set_option linter.unusedVariables false
end Go.Proofs.YtagiabcmbihoaaaDoor
namespace Go.Proofs.YtagiabcmbihoaaaDoor
open Go.ChangeShapes Go.WideShapes Go.ChangeAt Go.RowKit
set_option linter.unusedVariables false
/-- A way that is remembered: from which root, which sheet; where it leads; through which nodes. -/
structure EW where
  k0 : Int
  k1 : Int
  k2 : Int
  k3 : Int
  k4 : Int
  sh : Int
  pg : Int
  at_ : Int
  ro : Bool
  ids : List Int
  na : Option Addr
  nc : Nat
/-- Its cells. -/
def EW.cs (e : EW) : List Value := [.int .i64 e.k0, .int .i64 e.k1, .int .i64 e.k2, .int .i64 e.k3, .int .u32 e.k4, .int .u32 e.sh, .int .i64 e.pg, .int .i64 e.at_, .bool e.ro, .slice e.na e.ids.length e.nc]
/-- The numbers of its nodes lie in a row apart. -/
def NodesIn (w : World) (N cb : Nat) (v : Value) (e : EW) : Prop := ∀ i, i < e.ids.length → ∃ g o, e.na = some ⟨g, o, none⟩ ∧ N ≤ g ∧ g < w.heap.size ∧ g ≠ cb ∧ v.ownBlock ≠ some g ∧ w.cell? ⟨g, o + i, none⟩ = some (.int .i64 (e.ids.getD i 0))
def ewCells (E : List EW) : List Value := E.flatMap EW.cs
structure CacheAt (w : World) (N cb : Nat) (size hits : Int) (v : Value) (E : List EW) : Prop where
  nb : N ≤ cb
  cl : cb < w.heap.size
  c0 : w.cell? ⟨cb, 0, none⟩ = some (.int .i64 size)
  c1 : w.cell? ⟨cb, 1, none⟩ = some (.int .i64 hits)
  c2 : w.cell? ⟨cb, 2, none⟩ = some v
  fr : ∀ j, w.frozen? ⟨cb, j, none⟩ = false
  row : w.ownsRow N 194 10 v E.length (ewCells E)
  ne : v.ownBlock ≠ some cb
  nd : ∀ e, e ∈ E → NodesIn w N cb v e
theorem CacheAt.same {w w' : World} {N cb : Nat} {size hits : Int} {v : Value} {E : List EW} (h : CacheAt w N cb size hits v E) (hs : w.heap.size ≤ w'.heap.size) (hk : ∀ k, N ≤ k → k < w.heap.size → w'.heap[k]? = w.heap[k]?) : CacheAt w' N cb size hits v E := by
  have e := hk cb h.nb h.cl
  refine ⟨h.nb, Nat.lt_of_lt_of_le h.cl hs, (World.cell?_of_block (a := ⟨cb, 0, none⟩) e).trans h.c0, (World.cell?_of_block (a := ⟨cb, 1, none⟩) e).trans h.c1, (World.cell?_of_block (a := ⟨cb, 2, none⟩) e).trans h.c2, fun j => (World.frozen?_of_block (a := ⟨cb, j, none⟩) e).trans (h.fr j), row_same' h.row (fun g hg => hk g (h.row.lt g hg).1 (h.row.lt g hg).2), h.ne, fun e he i hi => ?_⟩
  obtain ⟨g, o, h1, h2, h3, h4, h5, h6⟩ := h.nd e he i hi
  exact ⟨g, o, h1, h2, Nat.lt_of_lt_of_le h3 hs, h4, h5, (World.cell?_of_block (a := ⟨g, o + i, none⟩) (hk g h2 h3)).trans h6⟩
theorem CacheAt.below {w w' : World} {N cb : Nat} {size hits : Int} {v : Value} {E : List EW} (h : CacheAt w N cb size hits v E) (hb : Below w.heap.size w w') : CacheAt w' N cb size hits v E :=
  h.same hb.size (fun k _ hk => hb.block k hk)
theorem EW.cs_len (e : EW) : e.cs.length = 10 := rfl
theorem ewCells_get : ∀ (E : List EW) (k q : Nat) (e : EW), E[k]? = some e → q < 10 → (ewCells E)[k * 10 + q]? = e.cs[q]? := by
  intro E
  induction E with
  | nil => intro k q e h; simp at h
  | cons d E ih =>
    intro k q e h hq
    have hd := d.cs_len
    show (d.cs ++ ewCells E)[k * 10 + q]? = _
    cases k with
    | zero =>
      simp at h
      subst h
      rw [Nat.zero_mul, Nat.zero_add, List.getElem?_append_left (by omega)]
    | succ k =>
      simp at h
      rw [List.getElem?_append_right (by rw [hd]; omega), hd, show (k + 1) * 10 + q - 10 = k * 10 + q by omega]
      exact ih k q e h hq
theorem CacheAt.way {w : World} {N cb : Nat} {size hits : Int} {v : Value} {E : List EW} (h : CacheAt w N cb size hits v E) {g n c : Nat} (hv : v = .slice (some ⟨g, 0, none⟩) n c) (k : Nat) (e : EW) (he : E[k]? = some e) :
    w.cell? ⟨g, k * 10, none⟩ = some (.int .i64 e.k0) ∧ w.cell? ⟨g, k * 10 + 1, none⟩ = some (.int .i64 e.k1) ∧ w.cell? ⟨g, k * 10 + 2, none⟩ = some (.int .i64 e.k2) ∧ w.cell? ⟨g, k * 10 + 3, none⟩ = some (.int .i64 e.k3) ∧ w.cell? ⟨g, k * 10 + 4, none⟩ = some (.int .u32 e.k4) ∧ w.cell? ⟨g, k * 10 + 5, none⟩ = some (.int .u32 e.sh) ∧ w.cell? ⟨g, k * 10 + 6, none⟩ = some (.int .i64 e.pg) ∧ w.cell? ⟨g, k * 10 + 7, none⟩ = some (.int .i64 e.at_) ∧ w.cell? ⟨g, k * 10 + 8, none⟩ = some (.bool e.ro) ∧ w.cell? ⟨g, k * 10 + 9, none⟩ = some (.slice e.na e.ids.length e.nc) := by
  obtain ⟨a', c', hsh⟩ := own_shape' h.row
  have hn : n = E.length := by rw [hv] at hsh; injection hsh
  subst hv
  subst hn
  have hk : k < E.length := by
    rcases Nat.lt_or_ge k E.length with h' | h'
    · exact h'
    · rw [List.getElem?_eq_none h'] at he; cases he
  have hl := h.row.1
  have cell : ∀ q u, q < 10 → e.cs[q]? = some u → w.cell? ⟨g, k * 10 + q, none⟩ = some u := fun q u hq hu => by
    have hx : k * 10 + q < (ewCells E).length := by rw [hl]; omega
    have e1 := h.row.cellAt (k * 10 + q) (by omega)
    have e2 := ewCells_get E k q e he hq
    rw [e1, e2, hu]
  exact ⟨cell 0 _ (by decide) rfl, cell 1 _ (by decide) rfl, cell 2 _ (by decide) rfl, cell 3 _ (by decide) rfl, cell 4 _ (by decide) rfl, cell 5 _ (by decide) rfl, cell 6 _ (by decide) rfl, cell 7 _ (by decide) rfl, cell 8 _ (by decide) rfl, cell 9 _ (by decide) rfl⟩
/-- Each remembered way is one. -/
def WaysOk (a b : Shp) (th : Nat → Bool) (vr_ : Nat → Int) (W : Nat → Nat → Value) (th2 : Nat → Bool) (vr2 : Nat → Int) (E : List EW) : Prop :=
  ∀ e, e ∈ E → 0 ≤ e.sh ∧ ∀ x : Int, 0 ≤ x → x < 32 → Way a b th vr_ W th2 vr2 e.k0 e.k1 e.k2 e.k3 e.k4 5 (e.sh * 32 + x) false e.ids e.pg x e.ro 0
set_option maxRecDepth 100000 in
theorem cnew_ok (x : Int) (h1 : 1 ≤ x) (h2 : x ≤ 64) (w : World) :
    Calls Tryd.prog 70 #[.int .i64 x] w fun e w' => ∃ cb, e = .returned (.tuple #[.pointer (some ⟨cb, 0, none⟩), .nilIface]) ∧ CacheAt w' w.heap.size cb x 0 (.slice none 0 0) [] ∧ Below w.heap.size w w' := by
  have d1 : decide (x < 1) = false := decide_eq_false (by omega)
  have d2 : decide (64 < x) = false := decide_eq_false (by omega)
  go_enter Tryd.func70, Tryd.ntmps70
  go_wp2_with fail
  go_ret2
  exact ⟨_, rfl, ⟨Nat.le_refl _, by simp, by simp, by simp, by simp, fun j => by simp, World.ownsRow_nil _ _ _ _, by simp [Value.ownBlock], fun e he => by cases he⟩, (Below.refl _ _).alloc (Nat.le_refl _) _⟩
end Go.Proofs.YtagiabcmbihoaaaDoor
namespace Go.Proofs.YtagiabcmbihoaaaDoor
open Go.ChangeShapes Go.WideShapes Go.ChangeAt Go.RowKit
set_option linter.unusedVariables false
set_option linter.unusedSimpArgs false
/-- Is it the way from there? -/
abbrev EW.is (e : EW) (f0 f1 f2 f3 f4 f5 : Int) : Bool := e.k0 == f0 && (e.k1 == f1 && (e.k2 == f2 && (e.k3 == f3 && (e.k4 == f4 && e.sh == f5))))
/-- An origin lies there. -/
structure FromAt (w : World) (fb : Nat) (f0 f1 f2 f3 f4 f5 : Int) : Prop where
  lt : fb < w.heap.size
  c0 : w.cell? ⟨fb, 0, none⟩ = some (.int .i64 f0)
  c1 : w.cell? ⟨fb, 1, none⟩ = some (.int .i64 f1)
  c2 : w.cell? ⟨fb, 2, none⟩ = some (.int .i64 f2)
  c3 : w.cell? ⟨fb, 3, none⟩ = some (.int .i64 f3)
  c4 : w.cell? ⟨fb, 4, none⟩ = some (.int .u32 f4)
  c5 : w.cell? ⟨fb, 5, none⟩ = some (.int .u32 f5)
theorem FromAt.same {w w' : World} {fb : Nat} {f0 f1 f2 f3 f4 f5 : Int} (h : FromAt w fb f0 f1 f2 f3 f4 f5) (hs : w.heap.size ≤ w'.heap.size) (e : w'.heap[fb]? = w.heap[fb]?) : FromAt w' fb f0 f1 f2 f3 f4 f5 :=
  ⟨Nat.lt_of_lt_of_le h.lt hs, (World.cell?_of_block (a := ⟨fb, 0, none⟩) e).trans h.c0, (World.cell?_of_block (a := ⟨fb, 1, none⟩) e).trans h.c1, (World.cell?_of_block (a := ⟨fb, 2, none⟩) e).trans h.c2, (World.cell?_of_block (a := ⟨fb, 3, none⟩) e).trans h.c3, (World.cell?_of_block (a := ⟨fb, 4, none⟩) e).trans h.c4, (World.cell?_of_block (a := ⟨fb, 5, none⟩) e).trans h.c5⟩
theorem FromAt.below {w w' : World} {fb : Nat} {f0 f1 f2 f3 f4 f5 : Int} (h : FromAt w fb f0 f1 f2 f3 f4 f5) (hb : Below w.heap.size w w') : FromAt w' fb f0 f1 f2 f3 f4 f5 :=
  ⟨Nat.lt_of_lt_of_le h.lt hb.size, (hb.cell (p := ⟨fb, 0, none⟩) h.lt).trans h.c0, (hb.cell (p := ⟨fb, 1, none⟩) h.lt).trans h.c1, (hb.cell (p := ⟨fb, 2, none⟩) h.lt).trans h.c2, (hb.cell (p := ⟨fb, 3, none⟩) h.lt).trans h.c3, (hb.cell (p := ⟨fb, 4, none⟩) h.lt).trans h.c4, (hb.cell (p := ⟨fb, 5, none⟩) h.lt).trans h.c5⟩
theorem CacheAt.shape {w : World} {N cb : Nat} {size hits : Int} {v : Value} {E : List EW} (h : CacheAt w N cb size hits v E) : ∃ a c, v = .slice a E.length c := own_shape' h.row
end Go.Proofs.YtagiabcmbihoaaaDoor
namespace Go.Proofs.YtagiabcmbihoaaaDoor
open Go.ChangeShapes Go.WideShapes Go.ChangeAt Go.RowKit
set_option linter.unusedVariables false
set_option linter.unusedSimpArgs false
section
variable {P : Program}
end
/-- All blocks but the cache's own are as they were. -/
def KeepB (w w' : World) (cb : Nat) (v : Value) : Prop := w.heap.size ≤ w'.heap.size ∧ ∀ k, k < w.heap.size → k ≠ cb → v.ownBlock ≠ some k → w'.heap[k]? = w.heap[k]?
/-- A way in a box. -/
structure WayAt (w : World) (b : Nat) (d : EW) : Prop where
  lt : b < w.heap.size
  c0 : w.cell? ⟨b, 0, none⟩ = some (.int .i64 d.k0)
  c1 : w.cell? ⟨b, 1, none⟩ = some (.int .i64 d.k1)
  c2 : w.cell? ⟨b, 2, none⟩ = some (.int .i64 d.k2)
  c3 : w.cell? ⟨b, 3, none⟩ = some (.int .i64 d.k3)
  c4 : w.cell? ⟨b, 4, none⟩ = some (.int .u32 d.k4)
  c5 : w.cell? ⟨b, 5, none⟩ = some (.int .u32 d.sh)
  c6 : w.cell? ⟨b, 6, none⟩ = some (.int .i64 d.pg)
  c7 : w.cell? ⟨b, 7, none⟩ = some (.int .i64 d.at_)
  c8 : w.cell? ⟨b, 8, none⟩ = some (.bool d.ro)
  c9 : w.cell? ⟨b, 9, none⟩ = some (.slice d.na d.ids.length d.nc)
theorem WayAt.same {w w' : World} {b : Nat} {d : EW} (h : WayAt w b d) (hs : w.heap.size ≤ w'.heap.size) (e : w'.heap[b]? = w.heap[b]?) : WayAt w' b d :=
  ⟨Nat.lt_of_lt_of_le h.lt hs, (World.cell?_of_block (a := ⟨b, 0, none⟩) e).trans h.c0, (World.cell?_of_block (a := ⟨b, 1, none⟩) e).trans h.c1, (World.cell?_of_block (a := ⟨b, 2, none⟩) e).trans h.c2, (World.cell?_of_block (a := ⟨b, 3, none⟩) e).trans h.c3, (World.cell?_of_block (a := ⟨b, 4, none⟩) e).trans h.c4, (World.cell?_of_block (a := ⟨b, 5, none⟩) e).trans h.c5, (World.cell?_of_block (a := ⟨b, 6, none⟩) e).trans h.c6, (World.cell?_of_block (a := ⟨b, 7, none⟩) e).trans h.c7, (World.cell?_of_block (a := ⟨b, 8, none⟩) e).trans h.c8, (World.cell?_of_block (a := ⟨b, 9, none⟩) e).trans h.c9⟩
theorem WayAt.below {w w' : World} {b : Nat} {d : EW} (h : WayAt w b d) (hb : Below w.heap.size w w') : WayAt w' b d := h.same hb.size (hb.block b h.lt)
theorem WayAt.new (w : World) (d : EW) (T : TypeId) : WayAt (w.alloc (.cells #[.int .i64 d.k0, .int .i64 d.k1, .int .i64 d.k2, .int .i64 d.k3, .int .u32 d.k4, .int .u32 d.sh, .int .i64 d.pg, .int .i64 d.at_, .bool d.ro, .slice d.na d.ids.length d.nc] T (0, 0))) w.heap.size d := ⟨by simp, by simp, by simp, by simp, by simp, by simp, by simp, by simp, by simp, by simp, by simp⟩
theorem WayAt.all {w : World} {b : Nat} {d : EW} (h : WayAt w b d) : (World.cell? w ⟨b, 0, none⟩ = some (.int .i64 d.k0) ∧ World.cell? w ⟨b, 1, none⟩ = some (.int .i64 d.k1) ∧ World.cell? w ⟨b, 2, none⟩ = some (.int .i64 d.k2) ∧ World.cell? w ⟨b, 3, none⟩ = some (.int .i64 d.k3) ∧ World.cell? w ⟨b, 4, none⟩ = some (.int .u32 d.k4) ∧ World.cell? w ⟨b, 5, none⟩ = some (.int .u32 d.sh) ∧ World.cell? w ⟨b, 6, none⟩ = some (.int .i64 d.pg) ∧ World.cell? w ⟨b, 7, none⟩ = some (.int .i64 d.at_) ∧ World.cell? w ⟨b, 8, none⟩ = some (.bool d.ro) ∧ World.cell? w ⟨b, 9, none⟩ = some (.slice d.na d.ids.length d.nc)) := ⟨h.c0, h.c1, h.c2, h.c3, h.c4, h.c5, h.c6, h.c7, h.c8, h.c9⟩
end Go.Proofs.YtagiabcmbihoaaaDoor
namespace Go.Proofs.YtagiabcmbihoaaaDoor
open Go.ChangeShapes Go.WideShapes Go.ChangeAt Go.RowKit
set_option linter.unusedVariables false
set_option linter.unusedSimpArgs false
/-- No way's numbers lie in block x. -/
def NoNode (E : List EW) (x : Nat) : Prop := ∀ e, e ∈ E → 0 < e.ids.length → ∀ g o, e.na = some ⟨g, o, none⟩ → g ≠ x
theorem KeyC.same' {w w' : World} {b : Nat} {k0 k1 k2 k3 k4 : Int} (h : KeyC w b k0 k1 k2 k3 k4) (hs : w.heap.size ≤ w'.heap.size) (e : w'.heap[b]? = w.heap[b]?) : KeyC w' b k0 k1 k2 k3 k4 :=
  ⟨Nat.lt_of_lt_of_le h.lt hs, (World.cell?_of_block (a := ⟨b, 0, none⟩) e).trans h.c0, (World.cell?_of_block (a := ⟨b, 1, none⟩) e).trans h.c1, (World.cell?_of_block (a := ⟨b, 2, none⟩) e).trans h.c2, (World.cell?_of_block (a := ⟨b, 3, none⟩) e).trans h.c3, (World.cell?_of_block (a := ⟨b, 4, none⟩) e).trans h.c4, fun j => (World.frozen?_of_block (a := ⟨b, j, none⟩) e).trans (h.fr j)⟩
theorem CacheAt.put {w : World} {N cb : Nat} {size hits : Int} {v : Value} {E : List EW} (h : CacheAt w N cb size hits v E) (x j : Nat) (h1 : cb ≠ x) (h2 : v.ownBlock ≠ some x) (h3 : ∀ e, e ∈ E → 0 < e.ids.length → ∀ g o, e.na = some ⟨g, o, none⟩ → g ≠ x) (u : Value) : CacheAt (w.setCell ⟨x, j, none⟩ u) N cb size hits v E := by
  have e := set_heap w x cb j u h1
  refine ⟨h.nb, by simpa using h.cl, (World.cell?_of_block (a := ⟨cb, 0, none⟩) e).trans h.c0, (World.cell?_of_block (a := ⟨cb, 1, none⟩) e).trans h.c1, (World.cell?_of_block (a := ⟨cb, 2, none⟩) e).trans h.c2, fun j => (World.frozen?_of_block (a := ⟨cb, j, none⟩) e).trans (h.fr j), row_same' h.row (fun g hg => set_heap _ _ _ _ _ (fun e => h2 (by rw [hg, e]))), h.ne, fun d hd i hi => ?_⟩
  obtain ⟨g, o, a1, a2, a3, a4, a5, a6⟩ := h.nd d hd i hi
  exact ⟨g, o, a1, a2, by simpa using a3, a4, a5, (World.cell?_of_block (a := ⟨g, o + i, none⟩) (set_heap _ _ _ _ _ (h3 d hd (by omega) g o a1))).trans a6⟩
end Go.Proofs.YtagiabcmbihoaaaDoor
namespace Go.Proofs.YtagiabcmbihoaaaDoor
open Go.ChangeShapes Go.WideShapes Go.ChangeAt Go.RowKit
set_option linter.unusedVariables false
set_option linter.unusedSimpArgs false
/-- A block that is none of the cache's. -/
def OutC (cb : Nat) (v : Value) (x : Nat) : Prop := x ≠ cb ∧ v.ownBlock ≠ some x
theorem OutC.next {cb : Nat} {v v' : Value} {x M : Nat} (h : OutC cb v x) (hx : x < M) (hv : v'.ownBlock = v.ownBlock ∨ ∃ g, M ≤ g ∧ v'.ownBlock = some g) : OutC cb v' x := by
  refine ⟨h.1, fun e => ?_⟩
  rcases hv with e' | ⟨g, hg, e'⟩
  · exact h.2 (by rw [← e', e])
  · rw [e'] at e; injection e with e; omega
/-- A memory over a law's start: a store, a cache over it. -/
structure MemAt (w0 w : World) (mb S : Nat) (a b : Shp) (N cb : Nat) (size : Int) (th : Nat → Bool) (vr_ : Nat → Int) (W : Nat → Nat → Value) (th2 : Nat → Bool) (vr2 : Nat → Int) (W2 : Nat → Nat → Int) (hits : Int) (v : Value) (E : List EW) : Prop where
  sv : SV w0 w S a b th vr_ W th2 vr2 W2
  lo : StLo S a b N
  n0 : w0.heap.size ≤ N
  nN : N ≤ w.heap.size
  m0 : w.cell? ⟨mb, 0, none⟩ = some (.pointer (some ⟨S, 0, none⟩))
  m1 : w.cell? ⟨mb, 1, none⟩ = some (.pointer (some ⟨cb, 0, none⟩))
  ml : mb < w.heap.size
  mn : N ≤ mb
  mo : OutC cb v mb
  ca : CacheAt w N cb size hits v E
  ok : WaysOk a b th vr_ W th2 vr2 E
section
variable {w w' : World}
theorem MemAt.below {w0 : World} {mb S : Nat} {a b : Shp} {N cb : Nat} {size : Int} {th : Nat → Bool} {vr_ : Nat → Int} {W : Nat → Nat → Value} {th2 : Nat → Bool} {vr2 : Nat → Int} {W2 : Nat → Nat → Int} {hits : Int} {v : Value} {E : List EW} (h : (MemAt w0 w mb S a b N cb size th vr_ W th2 vr2 W2 hits v E)) (hb : Below w.heap.size w w') : (MemAt w0 w' mb S a b N cb size th vr_ W th2 vr2 W2 hits v E) :=
  ⟨h.sv.step hb, h.lo, h.n0, Nat.le_trans h.nN hb.size, (hb.cell (p := ⟨mb, 0, none⟩) h.ml).trans h.m0, (hb.cell (p := ⟨mb, 1, none⟩) h.ml).trans h.m1, Nat.lt_of_lt_of_le h.ml hb.size, h.mn, h.mo, h.ca.below hb, h.ok⟩
theorem MemAt.found {w0 : World} {mb S : Nat} {a b : Shp} {N cb : Nat} {size : Int} {th : Nat → Bool} {vr_ : Nat → Int} {W : Nat → Nat → Value} {th2 : Nat → Bool} {vr2 : Nat → Int} {W2 : Nat → Nat → Int} {hits : Int} {v : Value} {E : List EW} (h : (MemAt w0 w mb S a b N cb size th vr_ W th2 vr2 W2 hits v E)) {hits' : Int} {v' : Value} {E' : List EW} (hb : Below N w w') (hc : CacheAt w' N cb size hits' v' E') (ok : WaysOk a b th vr_ W th2 vr2 E') (hk : KeepB w w' cb v) (hv : v'.ownBlock = v.ownBlock ∨ ∃ g, w.heap.size ≤ g ∧ v'.ownBlock = some g) : MemAt w0 w' mb S a b N cb size th vr_ W th2 vr2 W2 hits' v' E' := by
  have e := hk.2 mb h.ml h.mo.1 h.mo.2
  refine ⟨⟨h.sv.bel.trans (hb.mono h.n0), h.sv.wb, h.sv.st.under h.lo hk.1 (fun k hkN => hb.block k hkN)⟩, h.lo, h.n0, Nat.le_trans h.nN hk.1, (World.cell?_of_block (a := ⟨mb, 0, none⟩) e).trans h.m0, (World.cell?_of_block (a := ⟨mb, 1, none⟩) e).trans h.m1, Nat.lt_of_lt_of_le h.ml hk.1, h.mn, h.mo.next h.ml hv, hc, ok⟩
/-- The store's pages were written; the ways stay. -/
theorem MemAt.page {w0 : World} {mb S : Nat} {a b : Shp} {N cb : Nat} {size : Int} {th : Nat → Bool} {vr_ : Nat → Int} {W : Nat → Nat → Value} {th2 : Nat → Bool} {vr2 : Nat → Int} {W2 : Nat → Nat → Int} {hits : Int} {v : Value} {E : List EW} (h : (MemAt w0 w mb S a b N cb size th vr_ W th2 vr2 W2 hits v E)) {th2' : Nat → Bool} {vr2' : Nat → Int} {W2' : Nat → Nat → Int} (hP : PgAt w' b.b b.P b.p b.B b.G b.n b.c th2' vr2' W2') (hb : PBelow w w' b.B b.G) (ok : WaysOk a b th vr_ W th2' vr2' E) : MemAt w0 w' mb S a b N cb size th vr_ W th2' vr2' W2' hits v E := by
  have hl := h.lo.p
  have e := hb.2.2.2.2 mb h.ml (by have := h.mn; omega) (by have := h.mn; omega)
  exact ⟨h.sv.page hP hb, h.lo, h.n0, Nat.le_trans h.nN hb.2.2.2.1, (World.cell?_of_block (a := ⟨mb, 0, none⟩) e).trans h.m0, (World.cell?_of_block (a := ⟨mb, 1, none⟩) e).trans h.m1, Nat.lt_of_lt_of_le h.ml hb.2.2.2.1, h.mn, h.mo, h.ca.same hb.2.2.2.1 (fun k hk hks => hb.2.2.2.2 k hks (by omega) (by omega)), ok⟩
theorem MemAt.node {w0 : World} {mb S : Nat} {a b : Shp} {N cb : Nat} {size : Int} {th : Nat → Bool} {vr_ : Nat → Int} {W : Nat → Nat → Value} {th2 : Nat → Bool} {vr2 : Nat → Int} {W2 : Nat → Nat → Int} {hits : Int} {v : Value} {E : List EW} (h : (MemAt w0 w mb S a b N cb size th vr_ W th2 vr2 W2 hits v E)) {th' : Nat → Bool} {vr' : Nat → Int} {W' : Nat → Nat → Value} (hN : NdAt w' a.b a.P a.p a.B a.G a.n a.c th' vr' W') (hb : PBelow w w' a.B a.G) (ok : WaysOk a b th' vr' W' th2 vr2 E) : MemAt w0 w' mb S a b N cb size th' vr' W' th2 vr2 W2 hits v E := by
  have hl := h.lo.n
  have e := hb.2.2.2.2 mb h.ml (by have := h.mn; omega) (by have := h.mn; omega)
  exact ⟨h.sv.node hN hb, h.lo, h.n0, Nat.le_trans h.nN hb.2.2.2.1, (World.cell?_of_block (a := ⟨mb, 0, none⟩) e).trans h.m0, (World.cell?_of_block (a := ⟨mb, 1, none⟩) e).trans h.m1, Nat.lt_of_lt_of_le h.ml hb.2.2.2.1, h.mn, h.mo, h.ca.same hb.2.2.2.1 (fun k hk hks => hb.2.2.2.2 k hks (by omega) (by omega)), ok⟩
theorem MemAt.put {w0 : World} {mb S : Nat} {a b : Shp} {N cb : Nat} {size : Int} {th : Nat → Bool} {vr_ : Nat → Int} {W : Nat → Nat → Value} {th2 : Nat → Bool} {vr2 : Nat → Int} {W2 : Nat → Nat → Int} {hits : Int} {v : Value} {E : List EW} (h : (MemAt w0 w mb S a b N cb size th vr_ W th2 vr2 W2 hits v E)) (x j : Nat) (hx : N ≤ x) (h1 : cb ≠ x) (h2 : mb ≠ x) (h3 : v.ownBlock ≠ some x) (h4 : NoNode E x) (u : Value) : MemAt w0 (w.setCell ⟨x, j, none⟩ u) mb S a b N cb size th vr_ W th2 vr2 W2 hits v E := by
  have e := set_heap w x mb j u h2
  exact ⟨h.sv.put1 h.lo x j hx h.n0 u, h.lo, h.n0, by simpa using h.nN, (World.cell?_of_block (a := ⟨mb, 0, none⟩) e).trans h.m0, (World.cell?_of_block (a := ⟨mb, 1, none⟩) e).trans h.m1, by simpa using h.ml, h.mn, h.mo, h.ca.put x j h1 h3 h4 u, h.ok⟩
end
theorem ways_nil {a b : Shp} {th : Nat → Bool} {vr_ : Nat → Int} {W : Nat → Nat → Value} {th2 : Nat → Bool} {vr2 : Nat → Int} : WaysOk a b th vr_ W th2 vr2 [] := fun e he => by cases he
end Go.Proofs.YtagiabcmbihoaaaDoor
namespace Go.Proofs.YtagiabcmbihoaaaDoor
open Go.ChangeShapes Go.WideShapes Go.ChangeAt Go.RowKit
set_option linter.unusedVariables false
set_option linter.unusedSimpArgs false
/-- What lies above the store, and is none of the cache's, is as it was. -/
def KeepM (w w' : World) (N cb : Nat) (v : Value) : Prop := w.heap.size ≤ w'.heap.size ∧ ∀ k, N ≤ k → k < w.heap.size → k ≠ cb → v.ownBlock ≠ some k → w'.heap[k]? = w.heap[k]?
end Go.Proofs.YtagiabcmbihoaaaDoor
namespace Go.Proofs.YtagiabcmbihoaaaDoor
open Go.ChangeShapes Go.WideShapes Go.ChangeAt Go.RowKit
set_option linter.unusedVariables false
set_option linter.unusedSimpArgs false
end Go.Proofs.YtagiabcmbihoaaaDoor
namespace Go.Proofs.YtagiabcmbihoaaaDoor
open Go.ChangeShapes Go.WideShapes Go.ChangeAt Go.RowKit
set_option linter.unusedVariables false
set_option linter.unusedSimpArgs false
set_option maxRecDepth 100000 in
theorem mover_ok (S : Nat) (z : Int) (h1 : 1 ≤ z) (h2 : z ≤ 64) (w : World) :
    Calls Tryd.prog 53 #[.pointer (some ⟨S, 0, none⟩), .int .i64 z] w fun e w' => ∃ mb cb, e = .returned (.tuple #[.pointer (some ⟨mb, 0, none⟩), .nilIface]) ∧ CacheAt w' w.heap.size cb z 0 (.slice none 0 0) [] ∧ (w.heap.size ≤ mb ∧ mb < w'.heap.size ∧ mb ≠ cb ∧ w'.cell? ⟨mb, 0, none⟩ = some (.pointer (some ⟨S, 0, none⟩)) ∧ w'.cell? ⟨mb, 1, none⟩ = some (.pointer (some ⟨cb, 0, none⟩))) ∧ Below w.heap.size w w' := by
  go_enter Tryd.func53, Tryd.ntmps53
  go_wp2_with (first
    | (go_at_call 70; (with_reducible refine (cnew_ok z h1 h2 _).mono ?_); rintro e w1 ⟨cb, rfl, hc, hb⟩; have HC := Lib.hid hc; have HB := Lib.hid hb; clear hc hb))
  go_ret2
  exact ⟨w1.heap.size, cb, rfl, HC.out.below ((Below.refl _ _).alloc (Nat.le_refl _) _), ⟨HB.out.size, by simp, by have := HC.out.cl; omega, by simp, by simp⟩, HB.out.alloc HB.out.size _⟩
set_option maxRecDepth 100000 in
theorem mnew_ok (x y z : Int) (n m : Nat) (hx : Hid (x = n)) (hy : Hid (y = m)) (h1 : 1 ≤ n) (h2 : n ≤ 256) (h3 : 1 ≤ m) (h4 : m ≤ 256) (z1 : 1 ≤ z) (z2 : z ≤ 64) (w : World) :
    Calls Tryd.prog 22 #[.int .i64 x, .int .i64 y, .int .i64 z] w fun e w' => ∃ mb S a b N cb, e = .returned (.tuple #[.pointer (some ⟨mb, 0, none⟩), .nilIface]) ∧ MemAt w w' mb S a b N cb z (fun _ => false) (fun _ => 0) (fun _ b => zc b) (fun _ => false) (fun _ => 0) (fun _ _ => 0) 0 (.slice none 0 0) [] ∧ Hid (a.n = n ∧ b.n = m) := by
  go_enter Tryd.func22, Tryd.ntmps22
  go_wp2_with (first
    | (go_at_call 52; (with_reducible refine (snew_ok x y n m hx hy h1 h2 h3 h4 _).mono ?_); rintro e w1 ⟨S, a, b, rfl, hs, hn, hb⟩; have HS : Hid (SV w w1 S a b _ _ _ _ _ _) := Lib.hid ⟨hb, by rw [hn.out.2.2]; exact Nat.le_refl _, hs⟩; have HN := Lib.hid hn.out; clear hs hn hb)
    | (go_at_call 53; (with_reducible refine (mover_ok S z z1 z2 _).mono ?_); rintro e w2 ⟨mb, cb, rfl, hc, hm, hb⟩; have HC := Lib.hid hc; have HM := Lib.hid hm; have HB := Lib.hid hb; clear hc hm hb))
  go_ret2
  obtain ⟨m1, m2, m3, m4, m5⟩ := HM.out
  exact ⟨mb, S, a, b, w1.heap.size, cb, rfl, ⟨HS.out.step HB.out, HS.out.st.lo, HS.out.bel.size, HB.out.size, m4, m5, m2, m1, ⟨m3, by simp [Value.ownBlock]⟩, HC.out, ways_nil⟩, Lib.hid ⟨HN.out.1, HN.out.2.1⟩⟩
end Go.Proofs.YtagiabcmbihoaaaDoor
namespace Go.Proofs.YtagiabcmbihoaaaDoor
open Go.ChangeShapes Go.WideShapes Go.ChangeAt Go.RowKit
set_option linter.unusedVariables false
set_option linter.unusedSimpArgs false
theorem MemAt.over {w0 : World} {mb S : Nat} {a b : Shp} {N cb : Nat} {size : Int} {th : Nat → Bool} {vr_ : Nat → Int} {W : Nat → Nat → Value} {th2 : Nat → Bool} {vr2 : Nat → Int} {W2 : Nat → Nat → Int} {hits : Int} {v : Value} {E : List EW} {w w1 : World} (h : (MemAt w0 w mb S a b N cb size th vr_ W th2 vr2 W2 hits v E)) (h1 : Below w1.heap.size w1 w0) : MemAt w1 w mb S a b N cb size th vr_ W th2 vr2 W2 hits v E :=
  ⟨⟨h1.trans (h.sv.bel.mono h1.size), Nat.le_trans h1.size h.sv.wb, h.sv.st⟩, h.lo, Nat.le_trans h1.size h.n0, h.nN, h.m0, h.m1, h.ml, h.mn, h.mo, h.ca, h.ok⟩
theorem KeyC.keep {w w' : World} {kb N cb : Nat} {v : Value} {k0 k1 k2 k3 k4 : Int} (h : KeyC w kb k0 k1 k2 k3 k4) (hk : KeepM w w' N cb v) (hN : N ≤ kb) (ho : OutC cb v kb) : KeyC w' kb k0 k1 k2 k3 k4 := h.same' hk.1 (hk.2 kb hN h.lt ho.1 ho.2)
end Go.Proofs.YtagiabcmbihoaaaDoor
namespace Go.Proofs.YtagiabcmbihoaaaDoor
open Go.ChangeShapes Go.WideShapes Go.ChangeAt Go.RowKit
set_option linter.unusedVariables false
set_option linter.unusedSimpArgs false
theorem CacheAt.cleared {w : World} {N cb : Nat} {size hits : Int} {v : Value} {E : List EW} (h : CacheAt w N cb size hits v E) : CacheAt (w.setCell ⟨cb, 2, none⟩ (.slice none 0 0)) N cb size hits (.slice none 0 0) [] := by
  refine ⟨h.nb, by simpa using h.cl, ?_, ?_, World.cell?_setCell_same _ _ _ h.c2, fun j => by simpa using h.fr j, World.ownsRow_nil _ _ _ _, by simp [Value.ownBlock], fun e he => by cases he⟩
  · rw [World.cell?_setCell_other _ _ _ _ (by simp)]; exact h.c0
  · rw [World.cell?_setCell_other _ _ _ _ (by simp)]; exact h.c1
theorem mgiven_ok (mb cb : Nat) (v : Value) (w : World) (m1 : w.cell? ⟨mb, 1, none⟩ = some (.pointer (some ⟨cb, 0, none⟩))) (c2 : w.cell? ⟨cb, 2, none⟩ = some v) (fr : w.frozen? ⟨cb, 2, none⟩ = false) :
    Calls Tryd.prog 75 #[.pointer (some ⟨mb, 0, none⟩), .nilIface] w fun e w' => e = .returned .nilIface ∧ w' = w.setCell ⟨cb, 2, none⟩ (.slice none 0 0) := by
  have hcl : Calls Tryd.prog 86 #[.pointer (some ⟨cb, 0, none⟩)] w fun e w' => e = .returned (.tuple #[]) ∧ w' = w.setCell ⟨cb, 2, none⟩ (.slice none 0 0) := by
    go_enter Tryd.func86, Tryd.ntmps86
    go_wp2_with fail
    go_end0
    exact ⟨rfl, rfl⟩
  have HCl := Lib.hid hcl
  clear hcl c2 fr
  go_enter Tryd.func75, Tryd.ntmps75
  go_wp2_with (first
    | (go_at_call 86; (with_reducible refine (HCl.out).mono ?_); rintro e w1 ⟨rfl, hw⟩; have HW := Lib.hid hw; clear hw))
  go_ret
  exact ⟨rfl, HW.out⟩
section
variable {w w1 : World}
theorem MemAt.nodeC {w0 : World} {mb S : Nat} {a b : Shp} {N cb : Nat} {size : Int} {th : Nat → Bool} {vr_ : Nat → Int} {W : Nat → Nat → Value} {th2 : Nat → Bool} {vr2 : Nat → Int} {W2 : Nat → Nat → Int} {hits : Int} {v : Value} {E : List EW} (h : (MemAt w0 w mb S a b N cb size th vr_ W th2 vr2 W2 hits v E)) {th' : Nat → Bool} {vr' : Nat → Int} {W' : Nat → Nat → Value} (hN : NdAt w1 a.b a.P a.p a.B a.G a.n a.c th' vr' W') (hb : PBelow w w1 a.B a.G) : MemAt w0 (w1.setCell ⟨cb, 2, none⟩ (.slice none 0 0)) mb S a b N cb size th' vr' W' th2 vr2 W2 hits (.slice none 0 0) [] ∧ KeepM w (w1.setCell ⟨cb, 2, none⟩ (.slice none 0 0)) N cb v := by
  have hl := h.lo.n
  have e := hb.2.2.2.2 mb h.ml (by have := h.mn; omega) (by have := h.mn; omega)
  have e2 := (set_heap w1 cb mb 2 (.slice none 0 0) h.mo.1).trans e
  have hs := hb.2.2.2.1
  exact ⟨⟨(h.sv.node hN hb).put1 h.lo cb 2 h.ca.nb h.n0 _, h.lo, h.n0, by have := h.nN; simp; omega, (World.cell?_of_block (a := ⟨mb, 0, none⟩) e2).trans h.m0, (World.cell?_of_block (a := ⟨mb, 1, none⟩) e2).trans h.m1, by have := h.ml; simp; omega, h.mn, ⟨h.mo.1, by simp [Value.ownBlock]⟩, (h.ca.same hs (fun k hk hks => hb.2.2.2.2 k hks (by omega) (by omega))).cleared, ways_nil⟩, ⟨by simpa using hs, fun k hkN hk hkc _ => by rw [set_heap _ _ _ _ _ hkc]; exact hb.2.2.2.2 k hk (by omega) (by omega)⟩⟩
theorem MemAt.pageC {w0 : World} {mb S : Nat} {a b : Shp} {N cb : Nat} {size : Int} {th : Nat → Bool} {vr_ : Nat → Int} {W : Nat → Nat → Value} {th2 : Nat → Bool} {vr2 : Nat → Int} {W2 : Nat → Nat → Int} {hits : Int} {v : Value} {E : List EW} (h : (MemAt w0 w mb S a b N cb size th vr_ W th2 vr2 W2 hits v E)) {th2' : Nat → Bool} {vr2' : Nat → Int} {W2' : Nat → Nat → Int} (hP : PgAt w1 b.b b.P b.p b.B b.G b.n b.c th2' vr2' W2') (hb : PBelow w w1 b.B b.G) : MemAt w0 (w1.setCell ⟨cb, 2, none⟩ (.slice none 0 0)) mb S a b N cb size th vr_ W th2' vr2' W2' hits (.slice none 0 0) [] ∧ KeepM w (w1.setCell ⟨cb, 2, none⟩ (.slice none 0 0)) N cb v := by
  have hl := h.lo.p
  have e := hb.2.2.2.2 mb h.ml (by have := h.mn; omega) (by have := h.mn; omega)
  have e2 := (set_heap w1 cb mb 2 (.slice none 0 0) h.mo.1).trans e
  have hs := hb.2.2.2.1
  exact ⟨⟨(h.sv.page hP hb).put1 h.lo cb 2 h.ca.nb h.n0 _, h.lo, h.n0, by have := h.nN; simp; omega, (World.cell?_of_block (a := ⟨mb, 0, none⟩) e2).trans h.m0, (World.cell?_of_block (a := ⟨mb, 1, none⟩) e2).trans h.m1, by have := h.ml; simp; omega, h.mn, ⟨h.mo.1, by simp [Value.ownBlock]⟩, (h.ca.same hs (fun k hk hks => hb.2.2.2.2 k hks (by omega) (by omega))).cleared, ways_nil⟩, ⟨by simpa using hs, fun k hkN hk hkc _ => by rw [set_heap _ _ _ _ _ hkc]; exact hb.2.2.2.2 k hk (by omega) (by omega)⟩⟩
end
end Go.Proofs.YtagiabcmbihoaaaDoor
namespace Go.Proofs.YtagiabcmbihoaaaDoor
open Go.ChangeShapes Go.WideShapes Go.ChangeAt Go.RowKit
set_option linter.unusedVariables false
set_option linter.unusedSimpArgs false
theorem RowS.base {w : World} {b b' : Nat} {T : TypeId} {s G n : Nat} {W : Nat → Nat → Value} (h : RowS w b T s G n W) (hb : b' ≤ b) : RowS w b' T s G n W := by
  refine ⟨h.1, ?_⟩
  rcases h.2 with hn | ⟨g', cap, cur, e', hB, hg, rest⟩
  · exact .inl hn
  · exact .inr ⟨g', cap, cur, e', Nat.le_trans hb hB, hg, rest⟩
/-- Banks being made. -/
structure B0 (B : Nat) (w1 w : World) (n : Nat) (oA : Option Nat) (g : List Nat) : Prop where
  bel : Below w1.heap.size w1 w
  a : ∀ A, oA = some A → w1.heap.size ≤ A ∧ RowS w B 99 3 A n (acS (fun _ => 0) (fun _ => 0) (fun _ => 0))
  t : ∀ G, G ∈ g → w1.heap.size ≤ G ∧ RowS w B 104 2 G 256 (tiS (fun _ => -1) (fun _ => 0))
  nd : (oA.toList ++ g).Nodup
theorem infoAcc : (Tryd.prog.info? 99).map (fun i => (i.zero, i.size, i.bytes)) = some (some (.agg #[.int .i64 0, .int .i64 0, .int .i64 0]), 3, 24) := by kernel_rfl
theorem B0.mk_ {B : Nat} {w1 w w' : World} {n : Nat} {g : List Nat} (h : B0 B w1 w n none g) (A : Nat) (hA : w.heap.size = A) (hown : w'.ownsRow B 99 3 (.slice (some ⟨A, 0, none⟩) n n) n (madeCells #[Value.int .i64 0, .int .i64 0, .int .i64 0] (n * 3)).toList) (hgrow : w.grownBy w' none) : B0 B w1 w' n (some A) g := by
  have hb : Below w.heap.size w w' := (Below.refl _ _).grown hgrow (Nat.le_refl _) (fun k hk => by cases hk)
  refine ⟨h.bel.trans (hb.mono h.bel.size), fun A' e => ?_, fun G hG => ⟨(h.t G hG).1, (h.t G hG).2.same (hb.block G (h.t G hG).2.lt.2)⟩, ?_⟩
  · injection e with e
    subst e
    refine ⟨by rw [← hA]; exact h.bel.size, ?_⟩
    have h2 := flatS_made [Value.int .i64 0, .int .i64 0, .int .i64 0] n (by decide)
    rw [show [Value.int .i64 0, .int .i64 0, .int .i64 0].length = 3 from rfl] at h2
    unfold RowS
    rw [flatS_congr 3 _ (fun _ b => [Value.int .i64 0, .int .i64 0, .int .i64 0].getD b (.int .i64 0)) n (by decide) (fun i j _ hj => by rcases (show j = 0 ∨ j = 1 ∨ j = 2 by omega) with rfl | rfl | rfl <;> simp [acS]), ← h2]
    exact hown
  · have hn := h.nd
    simp only [Option.toList_none, List.nil_append] at hn
    simp only [Option.toList_some, List.singleton_append, List.nodup_cons]
    exact ⟨fun hm => by have := (h.t A hm).2.lt.2; omega, hn⟩
theorem B0.own {B : Nat} {w1 w w' : World} {n : Nat} {oA : Option Nat} {g : List Nat} (h : B0 B w1 w n oA g) (hB : B ≤ w1.heap.size) (G : Nat) (hr : TiR w' w.heap.size G 256) (hb : Below w.heap.size w w') : B0 B w1 w' n oA (g ++ [G]) := by
  have hlt := RowS.lt hr
  refine ⟨h.bel.trans (hb.mono h.bel.size), fun A e => ⟨(h.a A e).1, (h.a A e).2.same (hb.block A (h.a A e).2.lt.2)⟩, fun G' hG => ?_, ?_⟩
  · rcases List.mem_append.1 hG with hG | hG
    · exact ⟨(h.t G' hG).1, (h.t G' hG).2.same (hb.block G' (h.t G' hG).2.lt.2)⟩
    · simp at hG
      subst hG
      refine ⟨Nat.le_trans h.bel.size hlt.1, (RowS.congr hr (by decide) (fun i j hi _ => ?_)).base (Nat.le_trans hB h.bel.size)⟩
      simp [tiS, loB, hi]
  · rw [← List.append_assoc, List.nodup_append]
    refine ⟨h.nd, by simp, fun x hx y hy => ?_⟩
    simp at hy
    subst hy
    rcases List.mem_append.1 hx with hx | hx
    · have := (h.a x (by simpa using hx)).2.lt.2
      omega
    · have := (h.t x hx).2.lt.2
      omega
theorem B0.done {w0 w1 w w2 : World} {n p B A G1 G2 G3 mb db : Nat} (hA : ArAt w1 w0.heap.size p B n n (fun _ => false) (fun _ => 0)) (hb : Below w0.heap.size w0 w1) (h : B0 w0.heap.size w1 w n (some A) [G1, G2, G3]) (T : TypeId) (h2 : w2 = w.alloc (.cells #[.pointer (some ⟨p, 0, none⟩), .pointer (some ⟨mb, 0, none⟩), .pointer (some ⟨db, 0, none⟩), .slice (some ⟨A, 0, none⟩) n n, .slice (some ⟨G1, 0, none⟩) 256 256, .slice (some ⟨G2, 0, none⟩) 256 256, .slice (some ⟨G3, 0, none⟩) 256 256] T (0, 0))) : BkAt w2 w0.heap.size w.heap.size p B A G1 G2 G3 n n mb db (fun _ => false) (fun _ => 0) (fun _ => 0) (fun _ => 0) (fun _ => 0) (fun _ => -1) (fun _ => 0) (fun _ => -1) (fun _ => 0) (fun _ => -1) (fun _ => 0) ∧ Below w0.heap.size w0 w2 := by
  subst h2
  have hp := hA.pl
  have hB := hA.lt
  have hAa := h.a A rfl
  have t1 := h.t G1 (by simp)
  have t2 := h.t G2 (by simp)
  have t3 := h.t G3 (by simp)
  have l1 := t1.2.lt
  have l2 := t2.2.lt
  have l3 := t3.2.lt
  have lA := hAa.2.lt
  have hnd := h.nd
  simp at hnd
  have hs := h.bel.size
  have hs1 := hb.size
  have h2' : ∀ o, Below w.heap.size w (w.alloc o) := fun o => (Below.refl _ _).alloc (Nat.le_refl _) o
  have sm : ∀ {T : TypeId} {s G m : Nat} {W : Nat → Nat → Value} (o : Obj), RowS w w0.heap.size T s G m W → RowS (w.alloc o) w0.heap.size T s G m W := fun o hr => hr.same ((h2' o).block _ hr.lt.2)
  obtain ⟨⟨a1, a2, a3⟩, ⟨b1, b2⟩, c1⟩ := hnd
  exact ⟨⟨by simp, by omega, by simp, by simp, by simp, by simp, by simp, by simp, by simp, (hA.below h.bel).below (h2' _), sm _ hAa.2, sm _ t1.2, sm _ t2.2, sm _ t3.2, ⟨by omega, by omega, by omega, by omega, by omega, by omega, by omega, by omega, by omega, by omega, a1, a2, a3, by omega, by omega, by omega, b1, b2, c1⟩⟩, (hb.trans (h.bel.mono hs1)).alloc (by omega) _⟩
set_option maxRecDepth 100000 in
set_option maxHeartbeats 2000000 in
theorem bknew_ok (x : Int) (n mb db : Nat) (hx : Hid (x = n)) (h1 : 1 ≤ n) (h2 : n ≤ 256) (w : World) :
    Calls Tryd.prog 24 #[.int .i64 x, .pointer (some ⟨mb, 0, none⟩), .pointer (some ⟨db, 0, none⟩)] w fun e w' => ∃ P p B A G1 G2 G3, e = .returned (.tuple #[.pointer (some ⟨P, 0, none⟩), .nilIface]) ∧ BkAt w' w.heap.size P p B A G1 G2 G3 n n mb db (fun _ => false) (fun _ => 0) (fun _ => 0) (fun _ => 0) (fun _ => 0) (fun _ => -1) (fun _ => 0) (fun _ => -1) (fun _ => 0) (fun _ => -1) (fun _ => 0) ∧ Below w.heap.size w w' := by
  rw [hx.out]
  obtain ⟨i0, hi, hz0, hz1, hz2⟩ := info_parts infoAcc
  have HI := Lib.hid (⟨hi, hz0, hz1, hz2⟩ : Tryd.prog.info? 99 = some i0 ∧ i0.zero = some (.agg #[.int .i64 0, .int .i64 0, .int .i64 0]) ∧ i0.size = 3 ∧ i0.bytes = 24)
  clear hi hz0 hz1 hz2 hx
  go_enter Tryd.func24, Tryd.ntmps24
  go_upto_region 4 with (first
    | (go_at_call 54; (with_reducible refine (anew_at _ n (Lib.hid rfl) h1 h2 _).mono ?_); rintro e w1 ⟨p, B, rfl, hA, hb⟩; have HA := Lib.hid hA; have HB := Lib.hid hb; clear hA hb))
  obtain ⟨wD, hwD⟩ : ∃ wD, wD = w1.drew := ⟨_, rfl⟩
  have HD : Hid (B0 w.heap.size w1 wD n none []) := Lib.hid (by rw [hwD]; exact ⟨(Below.refl _ _).drew, fun _ e => (by cases e), fun _ e => (by cases e), by simp⟩)
  refine wp_region_noPanic ?_
  refine wp_region_held_drew (S := fun w' => True) (by kernel_rfl) trivial (fun hHeld => ?_)
  rw [← hwD]
  clear hwD
  refine wpAnyH_take (i := 0) (v := ?_) (by rfl) (by kernel_rfl) (by kernel_rfl) (by kernel_rfl) (fun _ _ _ h => h) (Or.inl ⟨by kernel_rfl, ?_⟩) (by assumption) ?_; rotate_left 1; (focus (intro w hSw; (try dsimp only at hSw); simp only [List.getElem_toArray, List.getElem_cons_succ, List.getElem_cons_zero]; all_goals go_simp; all_goals (try with_reducible rfl))); (try simp only [Act.put, List.getElem_toArray, List.getElem_cons_succ, List.getElem_cons_zero, List.setIfInBounds_toArray, List.set_cons_zero, List.set_cons_succ])
  refine wpAnyH_take (i := 1) (v := ?_) (by rfl) (by kernel_rfl) (by kernel_rfl) (by kernel_rfl) (fun _ _ _ h => h) (Or.inl ⟨by kernel_rfl, ?_⟩) (by assumption) ?_; rotate_left 1; (focus (intro w hSw; (try dsimp only at hSw); simp only [List.getElem_toArray, List.getElem_cons_succ, List.getElem_cons_zero]; all_goals go_simp; all_goals (try with_reducible rfl))); (try simp only [Act.put, List.getElem_toArray, List.getElem_cons_succ, List.getElem_cons_zero, List.setIfInBounds_toArray, List.set_cons_zero, List.set_cons_succ])
  refine wpAnyH_take (i := 2) (v := ?_) (by rfl) (by kernel_rfl) (by kernel_rfl) (by kernel_rfl) (fun _ _ _ h => h) (Or.inl ⟨by kernel_rfl, ?_⟩) (by assumption) ?_; rotate_left 1; (focus (intro w hSw; (try dsimp only at hSw); simp only [List.getElem_toArray, List.getElem_cons_succ, List.getElem_cons_zero]; all_goals go_simp; all_goals (try with_reducible rfl))); (try simp only [Act.put, List.getElem_toArray, List.getElem_cons_succ, List.getElem_cons_zero, List.setIfInBounds_toArray, List.set_cons_zero, List.set_cons_succ])
  refine wpAnyH_take (i := 3) (v := ?_) (by rfl) (by kernel_rfl) (by kernel_rfl) (by kernel_rfl) (fun _ _ _ h => h) (Or.inl ⟨by kernel_rfl, ?_⟩) (by assumption) ?_; rotate_left 1; (focus (intro w hSw; (try dsimp only at hSw); simp only [List.getElem_toArray, List.getElem_cons_succ, List.getElem_cons_zero]; all_goals go_simp; all_goals (try with_reducible rfl))); (try simp only [Act.put, List.getElem_toArray, List.getElem_cons_succ, List.getElem_cons_zero, List.setIfInBounds_toArray, List.set_cons_zero, List.set_cons_succ])
  refine wpAnyH_ready (rs := [4, 5]) (by kernel_rfl) (by simp) ?_
  refine AllReadyH.cons (by rfl) (fun K' hK => ?_) (AllReadyH.cons (by rfl) (fun K' hK => ?_) AllReadyH.nil)
  · rw [if_pos (by kernel_rfl)]; simp only [List.getElem_toArray, List.getElem_cons_succ, List.getElem_cons_zero]
    obtain ⟨wA, hrun, hown, hgrow⟩ := run_make_full (P := Tryd.prog) wD w.heap.size 67 99 i0 (.agg #[.int .i64 0, .int .i64 0, .int .i64 0]) 3 Tryd.underlying67 HI.out.1 HI.out.2.1 HI.out.2.2.1 .i64 .i64 n (by rw [HI.out.2.2.2]; omega) (by unfold maxLen; omega) (Nat.le_trans HB.out.size HD.out.bel.size); obtain ⟨A, hA⟩ : ∃ A, wD.heap.size = A := ⟨_, rfl⟩; rw [hA] at hown hrun; have HwA := Lib.hid (HD.out.mk_ A hA hown hgrow); clear hown hgrow hA; go_wp2_with fail; clear hrun
    refine hK.out _ _ trivial (fun hHeld => ?_); clear hK; (try simp only [Act.put, List.getElem_toArray, List.getElem_cons_succ, List.getElem_cons_zero, List.setIfInBounds_toArray, List.set_cons_zero, List.set_cons_succ])
    refine wpAnyH_ready (rs := [5]) (by kernel_rfl) (by simp) ?_; refine AllReadyH.cons (by rfl) (fun K hK => ?_) AllReadyH.nil; rw [if_pos (by kernel_rfl)]; simp only [List.getElem_toArray, List.getElem_cons_succ, List.getElem_cons_zero]
    go_wp2_with (first | (go_at_call 55; (with_reducible refine (unowned_is _).mono ?_); rintro e wX ⟨G, rfl, hr, hb⟩; have HwX := Lib.hid (HwA.out.own HB.out.size G hr hb); clear hr hb))
    refine hK.out _ _ trivial (fun hHeld => ?_); clear hK; (try simp only [Act.put, List.getElem_toArray, List.getElem_cons_succ, List.getElem_cons_zero, List.setIfInBounds_toArray, List.set_cons_zero, List.set_cons_succ])
    refine wpAnyH_ready (rs := [6]) (by kernel_rfl) (by simp) ?_; refine AllReadyH.cons (by rfl) (fun K hK => ?_) AllReadyH.nil; rw [if_pos (by kernel_rfl)]; simp only [List.getElem_toArray, List.getElem_cons_succ, List.getElem_cons_zero]
    go_wp2_with (first | (go_at_call 55; (with_reducible refine (unowned_is _).mono ?_); rintro e wY ⟨G, rfl, hr, hb⟩; have HwY := Lib.hid (HwX.out.own HB.out.size G hr hb); clear hr hb))
    refine hK.out _ _ trivial (fun hHeld => ?_); clear hK; (try simp only [Act.put, List.getElem_toArray, List.getElem_cons_succ, List.getElem_cons_zero, List.setIfInBounds_toArray, List.set_cons_zero, List.set_cons_succ])
    refine wpAnyH_ready (rs := [7]) (by kernel_rfl) (by simp) ?_; refine AllReadyH.cons (by rfl) (fun K hK => ?_) AllReadyH.nil; rw [if_pos (by kernel_rfl)]; simp only [List.getElem_toArray, List.getElem_cons_succ, List.getElem_cons_zero]
    go_wp2_with (first | (go_at_call 55; (with_reducible refine (unowned_is _).mono ?_); rintro e wZ ⟨G, rfl, hr, hb⟩; have HwZ := Lib.hid (HwY.out.own HB.out.size G hr hb); clear hr hb))
    refine hK.out _ _ trivial (fun hHeld => ?_); clear hK; (try simp only [Act.put, List.getElem_toArray, List.getElem_cons_succ, List.getElem_cons_zero, List.setIfInBounds_toArray, List.set_cons_zero, List.set_cons_succ])
    refine wpAnyH_take (i := 8) (v := ?_) (by rfl) (by kernel_rfl) (by kernel_rfl) (by kernel_rfl) (fun _ _ _ h => h) (Or.inl ⟨by kernel_rfl, ?_⟩) (by assumption) ?_; rotate_left 1; (focus (intro w hSw; (try dsimp only at hSw); simp only [List.getElem_toArray, List.getElem_cons_succ, List.getElem_cons_zero]; all_goals go_simp; all_goals (try with_reducible rfl))); (try simp only [Act.put, List.getElem_toArray, List.getElem_cons_succ, List.getElem_cons_zero, List.setIfInBounds_toArray, List.set_cons_zero, List.set_cons_succ]); refine wpAnyH_ready (rs := [9]) (by kernel_rfl) (by simp) ?_; refine AllReadyH.cons (by rfl) (fun K hK => ?_) AllReadyH.nil; rw [if_pos (by kernel_rfl)]; simp only [List.getElem_toArray, List.getElem_cons_succ, List.getElem_cons_zero]; go_wp2_with fail; refine hK.out _ _ trivial (fun hHeld => ?_); clear hK; (try simp only [Act.put, List.getElem_toArray, List.getElem_cons_succ, List.getElem_cons_zero, List.setIfInBounds_toArray, List.set_cons_zero, List.set_cons_succ]); (try refine wpAnyH_take (i := 10) (v := ?_) (by rfl) (by kernel_rfl) (by kernel_rfl) (by kernel_rfl) (fun _ _ _ h => h) (Or.inl ⟨by kernel_rfl, ?_⟩) (by assumption) ?_; rotate_left 1; (focus (intro w hSw; (try dsimp only at hSw); simp only [List.getElem_toArray, List.getElem_cons_succ, List.getElem_cons_zero]; all_goals go_simp; all_goals (try with_reducible rfl))); (try simp only [Act.put, List.getElem_toArray, List.getElem_cons_succ, List.getElem_cons_zero, List.setIfInBounds_toArray, List.set_cons_zero, List.set_cons_succ])); (try refine wpAnyH_take (i := 11) (v := ?_) (by rfl) (by kernel_rfl) (by kernel_rfl) (by kernel_rfl) (fun _ _ _ h => h) (Or.inl ⟨by kernel_rfl, ?_⟩) (by assumption) ?_; rotate_left 1; (focus (intro w hSw; (try dsimp only at hSw); simp only [List.getElem_toArray, List.getElem_cons_succ, List.getElem_cons_zero]; all_goals go_simp; all_goals (try with_reducible rfl))); (try simp only [Act.put, List.getElem_toArray, List.getElem_cons_succ, List.getElem_cons_zero, List.setIfInBounds_toArray, List.set_cons_zero, List.set_cons_succ])); refine wpAnyH_done (by kernel_rfl) ?_ _; refine NoPanic.normal ?_; go_wp2_with fail; go_ret2; have hD := B0.done (mb := mb) (db := db) HA.out HB.out HwZ.out 70 rfl; exact ⟨_, _, _, _, _, _, _, rfl, hD.1, hD.2⟩
  · rw [if_pos (by kernel_rfl)]; simp only [List.getElem_toArray, List.getElem_cons_succ, List.getElem_cons_zero]
    go_wp2_with (first | (go_at_call 55; (with_reducible refine (unowned_is _).mono ?_); rintro e wX ⟨G, rfl, hr, hb⟩; have HwX := Lib.hid (HD.out.own HB.out.size G hr hb); clear hr hb))
    refine hK.out _ _ trivial (fun hHeld => ?_); clear hK; (try simp only [Act.put, List.getElem_toArray, List.getElem_cons_succ, List.getElem_cons_zero, List.setIfInBounds_toArray, List.set_cons_zero, List.set_cons_succ])
    refine wpAnyH_ready (rs := [4, 6]) (by kernel_rfl) (by simp) ?_
    refine AllReadyH.cons (by rfl) (fun K'' hK => ?_) (AllReadyH.cons (by rfl) (fun K'' hK => ?_) AllReadyH.nil)
    · rw [if_pos (by kernel_rfl)]; simp only [List.getElem_toArray, List.getElem_cons_succ, List.getElem_cons_zero]
      obtain ⟨wA, hrun, hown, hgrow⟩ := run_make_full (P := Tryd.prog) wX w.heap.size 67 99 i0 (.agg #[.int .i64 0, .int .i64 0, .int .i64 0]) 3 Tryd.underlying67 HI.out.1 HI.out.2.1 HI.out.2.2.1 .i64 .i64 n (by rw [HI.out.2.2.2]; omega) (by unfold maxLen; omega) (Nat.le_trans HB.out.size HwX.out.bel.size); obtain ⟨A, hA⟩ : ∃ A, wX.heap.size = A := ⟨_, rfl⟩; rw [hA] at hown hrun; have HwA := Lib.hid (HwX.out.mk_ A hA hown hgrow); clear hown hgrow hA; go_wp2_with fail; clear hrun
      refine hK.out _ _ trivial (fun hHeld => ?_); clear hK; (try simp only [Act.put, List.getElem_toArray, List.getElem_cons_succ, List.getElem_cons_zero, List.setIfInBounds_toArray, List.set_cons_zero, List.set_cons_succ])
      refine wpAnyH_ready (rs := [6]) (by kernel_rfl) (by simp) ?_; refine AllReadyH.cons (by rfl) (fun K hK => ?_) AllReadyH.nil; rw [if_pos (by kernel_rfl)]; simp only [List.getElem_toArray, List.getElem_cons_succ, List.getElem_cons_zero]
      go_wp2_with (first | (go_at_call 55; (with_reducible refine (unowned_is _).mono ?_); rintro e wY ⟨G, rfl, hr, hb⟩; have HwY := Lib.hid (HwA.out.own HB.out.size G hr hb); clear hr hb))
      refine hK.out _ _ trivial (fun hHeld => ?_); clear hK; (try simp only [Act.put, List.getElem_toArray, List.getElem_cons_succ, List.getElem_cons_zero, List.setIfInBounds_toArray, List.set_cons_zero, List.set_cons_succ])
      refine wpAnyH_ready (rs := [7]) (by kernel_rfl) (by simp) ?_; refine AllReadyH.cons (by rfl) (fun K hK => ?_) AllReadyH.nil; rw [if_pos (by kernel_rfl)]; simp only [List.getElem_toArray, List.getElem_cons_succ, List.getElem_cons_zero]
      go_wp2_with (first | (go_at_call 55; (with_reducible refine (unowned_is _).mono ?_); rintro e wZ ⟨G, rfl, hr, hb⟩; have HwZ := Lib.hid (HwY.out.own HB.out.size G hr hb); clear hr hb))
      refine hK.out _ _ trivial (fun hHeld => ?_); clear hK; (try simp only [Act.put, List.getElem_toArray, List.getElem_cons_succ, List.getElem_cons_zero, List.setIfInBounds_toArray, List.set_cons_zero, List.set_cons_succ])
      refine wpAnyH_take (i := 8) (v := ?_) (by rfl) (by kernel_rfl) (by kernel_rfl) (by kernel_rfl) (fun _ _ _ h => h) (Or.inl ⟨by kernel_rfl, ?_⟩) (by assumption) ?_; rotate_left 1; (focus (intro w hSw; (try dsimp only at hSw); simp only [List.getElem_toArray, List.getElem_cons_succ, List.getElem_cons_zero]; all_goals go_simp; all_goals (try with_reducible rfl))); (try simp only [Act.put, List.getElem_toArray, List.getElem_cons_succ, List.getElem_cons_zero, List.setIfInBounds_toArray, List.set_cons_zero, List.set_cons_succ]); refine wpAnyH_ready (rs := [9]) (by kernel_rfl) (by simp) ?_; refine AllReadyH.cons (by rfl) (fun K hK => ?_) AllReadyH.nil; rw [if_pos (by kernel_rfl)]; simp only [List.getElem_toArray, List.getElem_cons_succ, List.getElem_cons_zero]; go_wp2_with fail; refine hK.out _ _ trivial (fun hHeld => ?_); clear hK; (try simp only [Act.put, List.getElem_toArray, List.getElem_cons_succ, List.getElem_cons_zero, List.setIfInBounds_toArray, List.set_cons_zero, List.set_cons_succ]); (try refine wpAnyH_take (i := 10) (v := ?_) (by rfl) (by kernel_rfl) (by kernel_rfl) (by kernel_rfl) (fun _ _ _ h => h) (Or.inl ⟨by kernel_rfl, ?_⟩) (by assumption) ?_; rotate_left 1; (focus (intro w hSw; (try dsimp only at hSw); simp only [List.getElem_toArray, List.getElem_cons_succ, List.getElem_cons_zero]; all_goals go_simp; all_goals (try with_reducible rfl))); (try simp only [Act.put, List.getElem_toArray, List.getElem_cons_succ, List.getElem_cons_zero, List.setIfInBounds_toArray, List.set_cons_zero, List.set_cons_succ])); (try refine wpAnyH_take (i := 11) (v := ?_) (by rfl) (by kernel_rfl) (by kernel_rfl) (by kernel_rfl) (fun _ _ _ h => h) (Or.inl ⟨by kernel_rfl, ?_⟩) (by assumption) ?_; rotate_left 1; (focus (intro w hSw; (try dsimp only at hSw); simp only [List.getElem_toArray, List.getElem_cons_succ, List.getElem_cons_zero]; all_goals go_simp; all_goals (try with_reducible rfl))); (try simp only [Act.put, List.getElem_toArray, List.getElem_cons_succ, List.getElem_cons_zero, List.setIfInBounds_toArray, List.set_cons_zero, List.set_cons_succ])); refine wpAnyH_done (by kernel_rfl) ?_ _; refine NoPanic.normal ?_; go_wp2_with fail; go_ret2; have hD := B0.done (mb := mb) (db := db) HA.out HB.out HwZ.out 70 rfl; exact ⟨_, _, _, _, _, _, _, rfl, hD.1, hD.2⟩
    · rw [if_pos (by kernel_rfl)]; simp only [List.getElem_toArray, List.getElem_cons_succ, List.getElem_cons_zero]
      go_wp2_with (first | (go_at_call 55; (with_reducible refine (unowned_is _).mono ?_); rintro e wY ⟨G, rfl, hr, hb⟩; have HwY := Lib.hid (HwX.out.own HB.out.size G hr hb); clear hr hb))
      refine hK.out _ _ trivial (fun hHeld => ?_); clear hK; (try simp only [Act.put, List.getElem_toArray, List.getElem_cons_succ, List.getElem_cons_zero, List.setIfInBounds_toArray, List.set_cons_zero, List.set_cons_succ])
      refine wpAnyH_ready (rs := [4, 7]) (by kernel_rfl) (by simp) ?_
      refine AllReadyH.cons (by rfl) (fun K3 hK => ?_) (AllReadyH.cons (by rfl) (fun K3 hK => ?_) AllReadyH.nil)
      · rw [if_pos (by kernel_rfl)]; simp only [List.getElem_toArray, List.getElem_cons_succ, List.getElem_cons_zero]
        obtain ⟨wA, hrun, hown, hgrow⟩ := run_make_full (P := Tryd.prog) wY w.heap.size 67 99 i0 (.agg #[.int .i64 0, .int .i64 0, .int .i64 0]) 3 Tryd.underlying67 HI.out.1 HI.out.2.1 HI.out.2.2.1 .i64 .i64 n (by rw [HI.out.2.2.2]; omega) (by unfold maxLen; omega) (Nat.le_trans HB.out.size HwY.out.bel.size); obtain ⟨A, hA⟩ : ∃ A, wY.heap.size = A := ⟨_, rfl⟩; rw [hA] at hown hrun; have HwA := Lib.hid (HwY.out.mk_ A hA hown hgrow); clear hown hgrow hA; go_wp2_with fail; clear hrun
        refine hK.out _ _ trivial (fun hHeld => ?_); clear hK; (try simp only [Act.put, List.getElem_toArray, List.getElem_cons_succ, List.getElem_cons_zero, List.setIfInBounds_toArray, List.set_cons_zero, List.set_cons_succ])
        refine wpAnyH_ready (rs := [7]) (by kernel_rfl) (by simp) ?_; refine AllReadyH.cons (by rfl) (fun K hK => ?_) AllReadyH.nil; rw [if_pos (by kernel_rfl)]; simp only [List.getElem_toArray, List.getElem_cons_succ, List.getElem_cons_zero]
        go_wp2_with (first | (go_at_call 55; (with_reducible refine (unowned_is _).mono ?_); rintro e wZ ⟨G, rfl, hr, hb⟩; have HwZ := Lib.hid (HwA.out.own HB.out.size G hr hb); clear hr hb))
        refine hK.out _ _ trivial (fun hHeld => ?_); clear hK; (try simp only [Act.put, List.getElem_toArray, List.getElem_cons_succ, List.getElem_cons_zero, List.setIfInBounds_toArray, List.set_cons_zero, List.set_cons_succ])
        refine wpAnyH_take (i := 8) (v := ?_) (by rfl) (by kernel_rfl) (by kernel_rfl) (by kernel_rfl) (fun _ _ _ h => h) (Or.inl ⟨by kernel_rfl, ?_⟩) (by assumption) ?_; rotate_left 1; (focus (intro w hSw; (try dsimp only at hSw); simp only [List.getElem_toArray, List.getElem_cons_succ, List.getElem_cons_zero]; all_goals go_simp; all_goals (try with_reducible rfl))); (try simp only [Act.put, List.getElem_toArray, List.getElem_cons_succ, List.getElem_cons_zero, List.setIfInBounds_toArray, List.set_cons_zero, List.set_cons_succ]); refine wpAnyH_ready (rs := [9]) (by kernel_rfl) (by simp) ?_; refine AllReadyH.cons (by rfl) (fun K hK => ?_) AllReadyH.nil; rw [if_pos (by kernel_rfl)]; simp only [List.getElem_toArray, List.getElem_cons_succ, List.getElem_cons_zero]; go_wp2_with fail; refine hK.out _ _ trivial (fun hHeld => ?_); clear hK; (try simp only [Act.put, List.getElem_toArray, List.getElem_cons_succ, List.getElem_cons_zero, List.setIfInBounds_toArray, List.set_cons_zero, List.set_cons_succ]); (try refine wpAnyH_take (i := 10) (v := ?_) (by rfl) (by kernel_rfl) (by kernel_rfl) (by kernel_rfl) (fun _ _ _ h => h) (Or.inl ⟨by kernel_rfl, ?_⟩) (by assumption) ?_; rotate_left 1; (focus (intro w hSw; (try dsimp only at hSw); simp only [List.getElem_toArray, List.getElem_cons_succ, List.getElem_cons_zero]; all_goals go_simp; all_goals (try with_reducible rfl))); (try simp only [Act.put, List.getElem_toArray, List.getElem_cons_succ, List.getElem_cons_zero, List.setIfInBounds_toArray, List.set_cons_zero, List.set_cons_succ])); (try refine wpAnyH_take (i := 11) (v := ?_) (by rfl) (by kernel_rfl) (by kernel_rfl) (by kernel_rfl) (fun _ _ _ h => h) (Or.inl ⟨by kernel_rfl, ?_⟩) (by assumption) ?_; rotate_left 1; (focus (intro w hSw; (try dsimp only at hSw); simp only [List.getElem_toArray, List.getElem_cons_succ, List.getElem_cons_zero]; all_goals go_simp; all_goals (try with_reducible rfl))); (try simp only [Act.put, List.getElem_toArray, List.getElem_cons_succ, List.getElem_cons_zero, List.setIfInBounds_toArray, List.set_cons_zero, List.set_cons_succ])); refine wpAnyH_done (by kernel_rfl) ?_ _; refine NoPanic.normal ?_; go_wp2_with fail; go_ret2; have hD := B0.done (mb := mb) (db := db) HA.out HB.out HwZ.out 70 rfl; exact ⟨_, _, _, _, _, _, _, rfl, hD.1, hD.2⟩
      · rw [if_pos (by kernel_rfl)]; simp only [List.getElem_toArray, List.getElem_cons_succ, List.getElem_cons_zero]
        go_wp2_with (first | (go_at_call 55; (with_reducible refine (unowned_is _).mono ?_); rintro e wZ ⟨G, rfl, hr, hb⟩; have HwZ := Lib.hid (HwY.out.own HB.out.size G hr hb); clear hr hb))
        refine hK.out _ _ trivial (fun hHeld => ?_); clear hK; (try simp only [Act.put, List.getElem_toArray, List.getElem_cons_succ, List.getElem_cons_zero, List.setIfInBounds_toArray, List.set_cons_zero, List.set_cons_succ])
        refine wpAnyH_ready (rs := [4]) (by kernel_rfl) (by simp) ?_; refine AllReadyH.cons (by rfl) (fun K hK => ?_) AllReadyH.nil; rw [if_pos (by kernel_rfl)]; simp only [List.getElem_toArray, List.getElem_cons_succ, List.getElem_cons_zero]
        obtain ⟨wA, hrun, hown, hgrow⟩ := run_make_full (P := Tryd.prog) wZ w.heap.size 67 99 i0 (.agg #[.int .i64 0, .int .i64 0, .int .i64 0]) 3 Tryd.underlying67 HI.out.1 HI.out.2.1 HI.out.2.2.1 .i64 .i64 n (by rw [HI.out.2.2.2]; omega) (by unfold maxLen; omega) (Nat.le_trans HB.out.size HwZ.out.bel.size); obtain ⟨A, hA⟩ : ∃ A, wZ.heap.size = A := ⟨_, rfl⟩; rw [hA] at hown hrun; have HwA := Lib.hid (HwZ.out.mk_ A hA hown hgrow); clear hown hgrow hA; go_wp2_with fail; clear hrun
        refine hK.out _ _ trivial (fun hHeld => ?_); clear hK; (try simp only [Act.put, List.getElem_toArray, List.getElem_cons_succ, List.getElem_cons_zero, List.setIfInBounds_toArray, List.set_cons_zero, List.set_cons_succ])
        refine wpAnyH_take (i := 8) (v := ?_) (by rfl) (by kernel_rfl) (by kernel_rfl) (by kernel_rfl) (fun _ _ _ h => h) (Or.inl ⟨by kernel_rfl, ?_⟩) (by assumption) ?_; rotate_left 1; (focus (intro w hSw; (try dsimp only at hSw); simp only [List.getElem_toArray, List.getElem_cons_succ, List.getElem_cons_zero]; all_goals go_simp; all_goals (try with_reducible rfl))); (try simp only [Act.put, List.getElem_toArray, List.getElem_cons_succ, List.getElem_cons_zero, List.setIfInBounds_toArray, List.set_cons_zero, List.set_cons_succ]); refine wpAnyH_ready (rs := [9]) (by kernel_rfl) (by simp) ?_; refine AllReadyH.cons (by rfl) (fun K hK => ?_) AllReadyH.nil; rw [if_pos (by kernel_rfl)]; simp only [List.getElem_toArray, List.getElem_cons_succ, List.getElem_cons_zero]; go_wp2_with fail; refine hK.out _ _ trivial (fun hHeld => ?_); clear hK; (try simp only [Act.put, List.getElem_toArray, List.getElem_cons_succ, List.getElem_cons_zero, List.setIfInBounds_toArray, List.set_cons_zero, List.set_cons_succ]); (try refine wpAnyH_take (i := 10) (v := ?_) (by rfl) (by kernel_rfl) (by kernel_rfl) (by kernel_rfl) (fun _ _ _ h => h) (Or.inl ⟨by kernel_rfl, ?_⟩) (by assumption) ?_; rotate_left 1; (focus (intro w hSw; (try dsimp only at hSw); simp only [List.getElem_toArray, List.getElem_cons_succ, List.getElem_cons_zero]; all_goals go_simp; all_goals (try with_reducible rfl))); (try simp only [Act.put, List.getElem_toArray, List.getElem_cons_succ, List.getElem_cons_zero, List.setIfInBounds_toArray, List.set_cons_zero, List.set_cons_succ])); (try refine wpAnyH_take (i := 11) (v := ?_) (by rfl) (by kernel_rfl) (by kernel_rfl) (by kernel_rfl) (fun _ _ _ h => h) (Or.inl ⟨by kernel_rfl, ?_⟩) (by assumption) ?_; rotate_left 1; (focus (intro w hSw; (try dsimp only at hSw); simp only [List.getElem_toArray, List.getElem_cons_succ, List.getElem_cons_zero]; all_goals go_simp; all_goals (try with_reducible rfl))); (try simp only [Act.put, List.getElem_toArray, List.getElem_cons_succ, List.getElem_cons_zero, List.setIfInBounds_toArray, List.set_cons_zero, List.set_cons_succ])); refine wpAnyH_done (by kernel_rfl) ?_ _; refine NoPanic.normal ?_; go_wp2_with fail; go_ret2; have hD := B0.done (mb := mb) (db := db) HA.out HB.out HwA.out 70 rfl; exact ⟨_, _, _, _, _, _, _, rfl, hD.1, hD.2⟩
end Go.Proofs.YtagiabcmbihoaaaDoor
namespace Go.Proofs.YtagiabcmbihoaaaDoor
open Go.ChangeShapes Go.WideShapes Go.ChangeAt Go.RowKit
set_option linter.unusedVariables false
set_option linter.unusedSimpArgs false
/-- The first k are there. -/
def thN (k : Nat) : Nat → Bool := fun i => decide (i < k)
theorem thN_put (k : Nat) : upd (thN k) k true = thN (k + 1) := by
  funext i
  unfold upd thN
  by_cases e : i = k
  · subst e; simp
  · by_cases h : i < k
    · simp [e, h]; omega
    · simp [e, h]; omega
theorem thN_at {k i : Nat} (h : i < k) : thN k i = true := by simp [thN, h]
theorem thN_free (k : Nat) : freeB (thN k) (fun _ => 0) k = true := by simp [freeB, thN]
theorem thN_not (k : Nat) : ∀ i, i < k → freeB (thN k) (fun _ => 0) i = false := fun i hi => by simp [freeB, thN, hi]
theorem prok_put {nb : Nat} {pr : Nat → Int} (hp : PrOk nb pr) (y : Int) (h0 : -1 ≤ y) (h1 : y < nb) : PrOk (nb + 1) (upd pr nb y) := fun i hi => by
  by_cases e : i = nb
  · subst e; rw [upd_at]; omega
  · rw [upd_other _ _ _ _ e]; exact hp i (by omega)
theorem own_slice {w : World} {B : Nat} {v : Value} {L : List Int} (h : w.ownsRow B 3 1 v L.length (L.map (Value.int .i64))) (k : Nat) (hk : Hid (L.length = k)) : ∃ a c, v = .slice a k c := by
  obtain ⟨a, c, hv, _⟩ := own_ints h
  exact ⟨a, c, by rw [hv, hk.out]⟩
set_option maxRecDepth 100000 in
set_option maxHeartbeats 1000000 in
theorem bopen_ok {base P p B A G1 G2 G3 n c mb db nb : Nat} {pr us lm o1 v1 o2 v2 o3 v3 : Nat → Int} (y lim : Int) (hy0 : -1 ≤ y) (hy1 : y < nb) (hl0 : 0 ≤ lim) (hl1 : lim ≤ 512) (hnb : nb < n) (hpr : Hid (PrOk nb pr)) (hch : Hid ((chL pr y).length < 8)) (w : World) (h : BkAt w base P p B A G1 G2 G3 n c mb db (thN nb) (fun _ => 0) pr us lm o1 v1 o2 v2 o3 v3) :
    Calls Tryd.prog 25 #[.pointer (some ⟨P, 0, none⟩), .int .i64 y, .int .i64 lim] w fun e w' => e = .returned (.tuple #[.int .i64 nb, .int .i64 0, .nilIface]) ∧ BkAt w' base P p B A G1 G2 G3 n c mb db (thN (nb + 1)) (fun _ => 0) (upd pr nb y) (upd us nb 0) (upd lm nb lim) o1 v1 o2 v2 o3 v3 ∧ PBelow w w' B A := by
  have H := Lib.hid h
  have hn := h.ar.le
  have d0 : decide (lim < 0) = false := decide_eq_false (by omega)
  have d1 : decide (512 < lim) = false := decide_eq_false (by omega)
  obtain ⟨m, hm⟩ : ∃ m, Hid ((chL pr y).length = m) := ⟨_, Lib.hid rfl⟩
  have hm8 : m < 8 := by have := hch.out; rw [hm.out] at this; exact this
  have d2 : decide ((8 : Int) ≤ (m : Int)) = false := decide_eq_false (by omega)
  have k0 : (0 : Int) ≤ nb := by omega
  have k1 : (nb : Int) < n := by omega
  clear h
  go_enter Tryd.func25, Tryd.ntmps25
  go_wp2_with (first
    | (go_at_call 35; (with_reducible refine (bchain_is y nb hy0 hy1 (by omega) (Lib.hid (fun i hi => thN_at hi)) hpr _ H.out).mono ?_); rintro e w1 ⟨v, rfl, hr, hb⟩; obtain ⟨a9, c9, hv9⟩ := own_slice hr m hm; subst hv9; have H1 := Lib.hid (H.out.below hb); have HB1 := Lib.hid hb; have f0 := H1.out.f0; clear hr hb)
    | (go_at_call 56; (with_reducible refine (atake_ok _ H1.out.ar nb hnb (Lib.hid (thN_free nb)) (Lib.hid (thN_not nb)) 0 (Lib.hid rfl)).mono ?_); rintro e w2 ⟨rfl, hA, hg⟩; have H2 := Lib.hid (H1.out.turn hA hg); have HB2 := Lib.hid ((PBelow.of_below (B := B) (G := A) HB1.out).trans (PBelow.of hg (.inl rfl))); have f3 := H2.out.f3; have HP := Lib.hid (H2.out.setP nb hnb y); have HU := Lib.hid (HP.out.1.setU nb hnb 0); have HL := Lib.hid (HU.out.1.setL nb hnb lim); have c0 := H2.out.ac0 nb hnb; have c1 := H2.out.ac1 nb hnb; have c2 := H2.out.ac2 nb hnb; have z0 := H2.out.ac.fr (nb * 3); have z1 := H2.out.ac.fr (nb * 3 + 1); have z2 := H2.out.ac.fr (nb * 3 + 2); clear hA hg f0))
  go_ret3
  refine ⟨rfl, ?_, ((HB2.out.trans (PBelow.of HP.out.2 (.inr rfl))).trans (PBelow.of HU.out.2 (.inr rfl))).trans (PBelow.of HL.out.2 (.inr rfl))⟩
  have := HL.out.1
  rw [thN_put] at this
  exact this
/-- What open answers, told on by Root and by Sub. -/
theorem broot_of {P : Nat} {lim : Int} {w : World} {Q : Ending → World → Prop} (r : Value) (a0 a1 a2 : Value) (hr : r = .tuple #[a0, a1, a2]) (h : Calls Tryd.prog 25 #[.pointer (some ⟨P, 0, none⟩), .int .i64 (-1), .int .i64 lim] w fun e w' => e = .returned r ∧ Q e w') :
    Calls Tryd.prog 6 #[.pointer (some ⟨P, 0, none⟩), .int .i64 lim] w fun e w' => e = .returned r ∧ Q e w' := by
  subst hr
  have HC := Lib.hid h
  clear h
  go_enter Tryd.func6, Tryd.ntmps6
  go_wp2_with (first
    | (go_at_call 25; (with_reducible refine HC.out.mono ?_); rintro e w1 ⟨rfl, hq⟩; have HQ := Lib.hid hq; clear hq))
  go_ret3
  exact ⟨rfl, HQ.out⟩
theorem bsub_of {base P p B A G1 G2 G3 n c mb db nb : Nat} {pr us lm o1 v1 o2 v2 o3 v3 : Nat → Int} (q : Nat) (lim : Int) (hq : q < nb) (hnb : nb ≤ n) {Q : Ending → World → Prop} (r : Value) (a0 a1 a2 : Value) (hr : r = .tuple #[a0, a1, a2]) (w : World) (h0 : BkAt w base P p B A G1 G2 G3 n c mb db (thN nb) (fun _ => 0) pr us lm o1 v1 o2 v2 o3 v3) (h : Calls Tryd.prog 25 #[.pointer (some ⟨P, 0, none⟩), .int .i64 (q : Int), .int .i64 lim] w fun e w' => e = .returned r ∧ Q e w') :
    Calls Tryd.prog 7 #[.pointer (some ⟨P, 0, none⟩), .int .i64 (q : Int), .int .i64 lim] w fun e w' => e = .returned r ∧ Q e w' := by
  subst hr
  have HC := Lib.hid h
  have H := Lib.hid h0
  have f0 := h0.f0
  clear h h0
  go_enter Tryd.func7, Tryd.ntmps7
  go_wp2_with (first
    | (go_at_call 17; (with_reducible refine (athere_in q (by omega) true (Lib.hid (thN_at hq)) _ H.out.ar).mono ?_); rintro e w1 ⟨rfl, rfl⟩)
    | (go_at_call 25; (with_reducible refine HC.out.mono ?_); rintro e w1 ⟨rfl, hq⟩; have HQ := Lib.hid hq; clear hq))
  go_ret3
  exact ⟨rfl, HQ.out⟩
theorem bused_is {base P p B A G1 G2 G3 n c mb db nb : Nat} {pr us lm o1 v1 o2 v2 o3 v3 : Nat → Int} (q : Nat) (x z : Int) (hx : Hid (x = (q : Int))) (hq : q < nb) (hnb : nb ≤ n) (hz : Hid (us q = z)) (w : World) (h : BkAt w base P p B A G1 G2 G3 n c mb db (thN nb) (fun _ => 0) pr us lm o1 v1 o2 v2 o3 v3) :
    Calls Tryd.prog 15 #[.pointer (some ⟨P, 0, none⟩), .int .i64 x] w fun e w' => e = .returned (.int .i64 z) ∧ w = w' := by
  rw [hx.out]
  have H := Lib.hid h
  have f0 := h.f0
  have f3 := h.f3
  have c0 := h.ac1 q (by omega)
  rw [hz.out] at c0
  have k0 : (0 : Int) ≤ q := by omega
  have k1 : (q : Int) < n := by omega
  clear h hx
  go_enter Tryd.func15, Tryd.ntmps15
  go_wp2_with (first
    | (go_at_call 17; (with_reducible refine (athere_in q (by omega) true (Lib.hid (thN_at hq)) _ H.out.ar).mono ?_); rintro e w1 ⟨rfl, rfl⟩))
  go_ret
  exact ⟨rfl, rfl⟩
set_option maxRecDepth 100000 in
theorem six_nil (a : Option Addr) (d c : Nat) (hd : d = 0) (x : Int) (w : World) :
    Calls Tryd.prog 62 #[.slice a d c, .int .i64 x] w fun e w' => e = .returned (.int .i64 (-1)) ∧ w = w' := by
  have HD := Lib.hid hd
  clear hd
  go_enter Tryd.func62, Tryd.ntmps62
  go_wp2_with fail
  go_loop [8] (fun i => ∃ k : Nat, k ≤ d ∧ i = .int .i64 k) (fun i => d - (intOf i).toNat)
  case atStart => exact ⟨0, by omega, rfl⟩
  case round =>
    obtain ⟨k, hk, rfl⟩ := hrel
    obtain rfl : d = k := by have := HD.out; omega
    have hdd : decide (d < d) = false := by simp
    go_wp2_with fail
    go_ret
    exact ⟨rfl, rfl⟩
set_option maxRecDepth 100000 in
theorem scon_any (w : World) (B : Nat) (v : Value) (L : List Int) (k : Nat) (hk : Hid (L.length = k)) (hk2 : k ≤ 1000) (x : Int) (b : Bool) (hb : Hid (L.contains x = b)) (a : Option Addr) (c : Nat) (hv : v = .slice a k c) (h : w.ownsRow B 3 1 v L.length (L.map (Value.int .i64))) :
    Calls Tryd.prog 34 #[.slice a k c, .int .i64 x] w fun e w' => e = .returned (.bool b) ∧ w = w' := by
  obtain ⟨a', c', hv', ha⟩ := own_ints h
  rw [hv] at hv'
  have e1 : a = a' := by injection hv'
  have e2 : k = L.length := by injection hv'
  subst e1
  by_cases h0 : 0 < L.length
  · obtain ⟨g, hg, hr, _⟩ := ha h0
    subst hg
    rw [← e2] at hr
    refine scon_is g k c L x hk2 b (Lib.hid ?_) w hr
    rw [← hb.out, List.contains_iff_mem, mem_getD, ← e2]
  · have hL : L = [] := List.eq_nil_of_length_eq_zero (by omega)
    subst hL
    have hk0 : k = 0 := by simpa using e2
    subst hk0
    have hb0 : b = false := by rw [← hb.out]; rfl
    subst hb0
    have HC := Lib.hid (six_nil a 0 c rfl x w)
    clear h ha hv hv' hb e2 hk h0
    go_enter Tryd.func34, Tryd.ntmps34
    go_wp2_with (first | (go_at_call 62; (with_reducible refine HC.out.mono ?_); rintro e w1 ⟨rfl, rfl⟩))
    go_ret
    exact ⟨rfl, rfl⟩
set_option maxRecDepth 100000 in
theorem bwithin_is {base P p B A G1 G2 G3 n c mb db nb : Nat} {pr us lm o1 v1 o2 v2 o3 v3 : Nat → Int} (y z : Int) (t : Bool) (hy0 : -1 ≤ y) (hy1 : y < nb) (hnb : nb ≤ n) (hpr : Hid (PrOk nb pr)) (ht : Hid ((chL pr y).contains z = t)) (w : World) (h : BkAt w base P p B A G1 G2 G3 n c mb db (thN nb) (fun _ => 0) pr us lm o1 v1 o2 v2 o3 v3) :
    Calls Tryd.prog 12 #[.pointer (some ⟨P, 0, none⟩), .int .i64 y, .int .i64 z] w fun e w' => e = .returned (.bool t) ∧ Below w.heap.size w w' := by
  have H := Lib.hid h
  have hn := h.ar.le
  obtain ⟨m, hm⟩ : ∃ m, Hid ((chL pr y).length = m) := ⟨_, Lib.hid rfl⟩
  have hmn : m ≤ 1000 := by rw [← hm.out]; have := (chL_bound hpr.out (by omega) nb y hy1 (Nat.le_refl _)).1; omega
  clear h
  go_enter Tryd.func12, Tryd.ntmps12
  go_wp2_with (first
    | (go_at_call 35; (with_reducible refine (bchain_is y nb hy0 hy1 hnb (Lib.hid (fun i hi => thN_at hi)) hpr _ H.out).mono ?_); rintro e w1 ⟨v', rfl, hr, hb⟩; obtain ⟨a9, c9, hv9⟩ := own_slice hr m hm; have HCo := Lib.hid (scon_any w1 _ v' _ m hm hmn z t ht a9 c9 hv9 hr); subst hv9; have HB1 := Lib.hid hb; clear hr hb)
    | (go_at_call 34; (with_reducible refine HCo.out.mono ?_); rintro e w2 ⟨rfl, rfl⟩))
  go_ret
  exact ⟨rfl, HB1.out⟩
end Go.Proofs.YtagiabcmbihoaaaDoor
namespace Go.Proofs.YtagiabcmbihoaaaDoor
open Go.ChangeShapes Go.WideShapes Go.ChangeAt Go.RowKit
set_option linter.unusedVariables false
set_option linter.unusedSimpArgs false
/-- Where all of it lies. -/
structure BLoc where
  mb : Nat
  S : Nat
  a : Shp
  b : Shp
  N : Nat
  cb : Nat
  dB : Nat
  dP : Nat
  dp : Nat
  dR : Nat
  dG : Nat
  dQ : Nat
  dn : Nat
  dc : Nat
  bB : Nat
  P : Nat
  p : Nat
  B : Nat
  A : Nat
  G1 : Nat
  G2 : Nat
  G3 : Nat
  n : Nat
  c : Nat
  T : Nat
  z : Int
/-- What it is. -/
structure BSt where
  nt : Nat → Bool
  nv : Nat → Int
  nW : Nat → Nat → Value
  pt : Nat → Bool
  pv : Nat → Int
  pW : Nat → Nat → Int
  dt : Nat → Bool
  dv : Nat → Int
  dW : Nat → Nat → Value
  nb : Nat
  pr : Nat → Int
  us : Nat → Int
  lm : Nat → Int
  o1 : Nat → Int
  v1 : Nat → Int
  o2 : Nat → Int
  v2 : Nat → Int
  o3 : Nat → Int
  v3 : Nat → Int
def BKD (w : World) (L : BLoc) (D : BSt) : Prop := BkAt w L.bB L.P L.p L.B L.A L.G1 L.G2 L.G3 L.n L.c L.mb L.dP (thN D.nb) (fun _ => 0) D.pr D.us D.lm D.o1 D.v1 D.o2 D.v2 D.o3 D.v3
def DMD (w : World) (L : BLoc) (D : BSt) : Prop := DsAt w L.dB L.dP L.dp L.dR L.dG L.dQ L.dn L.dc D.dt D.dv D.dW
def MMD (w0 w : World) (L : BLoc) (D : BSt) : Prop := MemAt w0 w L.mb L.S L.a L.b L.N L.cb L.z D.nt D.nv D.nW D.pt D.pv D.pW 0 (.slice none 0 0) []
/-- Banks over domains over a memory over a law's start. -/
structure BW (w0 w : World) (L : BLoc) (D : BSt) : Prop where
  m : MMD w0 w L D
  d : DMD w L D
  k : BKD w L D
  md : L.mb < L.dB ∧ L.cb < L.dB ∧ L.N ≤ L.dB
  db : L.dP < L.bB ∧ L.dp < L.bB ∧ L.dR < L.bB ∧ L.dG < L.bB ∧ L.dQ < L.bB
  dl : L.dB ≤ L.bB
  pk : PrOk D.nb D.pr
  nn : D.nb ≤ L.n
  tt : L.bB ≤ L.T ∧ L.P < L.T ∧ L.p < L.T ∧ L.B < L.T ∧ L.A < L.T ∧ L.G1 < L.T ∧ L.G2 < L.T ∧ L.G3 < L.T
  tw : L.T ≤ w.heap.size
/-- What lies behind all of it stays. -/
def UpT (T : Nat) (w w' : World) : Prop := w.heap.size ≤ w'.heap.size ∧ ∀ k, T ≤ k → k < w.heap.size → w'.heap[k]? = w.heap[k]?
theorem UpT.refl (T : Nat) (w : World) : UpT T w w := ⟨Nat.le_refl _, fun _ _ _ => rfl⟩
theorem UpT.trans {T : Nat} {w w1 w2 : World} (h : UpT T w w1) (h2 : UpT T w1 w2) : UpT T w w2 := ⟨Nat.le_trans h.1 h2.1, fun k h3 h4 => (h2.2 k h3 (Nat.lt_of_lt_of_le h4 h.1)).trans (h.2 k h3 h4)⟩
theorem UpT.below {T : Nat} {w w1 : World} (h : Below w.heap.size w w1) : UpT T w w1 := ⟨h.size, fun k _ hk => h.block k hk⟩
theorem UpT.grown {T g : Nat} {w w1 : World} (h : w.grownBy w1 (some g)) (hg : g < T) : UpT T w w1 := ⟨h.size, fun k hk hk2 => h.block k hk2 (fun e => by injection e with e; omega)⟩
theorem UpT.pb {T B G : Nat} {w w1 : World} (h : PBelow w w1 B G) (h1 : B < T) (h2 : G < T) : UpT T w w1 := ⟨h.2.2.2.1, fun k hk hk2 => h.2.2.2.2 k hk2 (by omega) (by omega)⟩
section
variable {w0 w w' : World} {L : BLoc} {D D' : BSt}
theorem BW.bel (h : BW w0 w L D) : Below w0.heap.size w0 w := h.m.sv.bel
theorem BW.mn (h : BW w0 w L D) : w0.heap.size ≤ L.N := h.m.n0
theorem BW.bl (h : BW w0 w L D) : L.bB ≤ w.heap.size := Nat.le_of_lt (Nat.lt_of_le_of_lt h.k.pb h.k.pl)
theorem BW.dlow (h : BW w0 w L D) : L.dB ≤ w.heap.size := Nat.le_trans h.dl h.bl
theorem BW.below (h : BW w0 w L D) (hb : Below w.heap.size w w') : BW w0 w' L D := ⟨MemAt.below h.m hb, DsAt.below h.d hb, BkAt.below h.k hb, h.md, h.db, h.dl, h.pk, h.nn, h.tt, Nat.le_trans h.tw hb.size⟩
/-- What lies behind a memory was changed. -/
theorem MMD.low (h : MMD w0 w L D) {M : Nat} (hb : Below M w w') (h1 : L.mb < M) (h2 : L.cb < M) (h3 : L.N ≤ M) : MMD w0 w' L D := by
  have e := hb.block L.mb h1
  exact ⟨⟨h.sv.bel.trans (hb.mono (Nat.le_trans h.n0 h3)), h.sv.wb, h.sv.st.under h.lo hb.size (fun k hk => hb.block k (by omega))⟩, h.lo, h.n0, Nat.le_trans h.nN hb.size, (World.cell?_of_block (a := ⟨L.mb, 0, none⟩) e).trans h.m0, (World.cell?_of_block (a := ⟨L.mb, 1, none⟩) e).trans h.m1, Nat.lt_of_lt_of_le h.ml hb.size, h.mn, h.mo, ⟨h.ca.nb, Nat.lt_of_lt_of_le h.ca.cl hb.size, (World.cell?_of_block (a := ⟨L.cb, 0, none⟩) (hb.block L.cb h2)).trans h.ca.c0, (World.cell?_of_block (a := ⟨L.cb, 1, none⟩) (hb.block L.cb h2)).trans h.ca.c1, (World.cell?_of_block (a := ⟨L.cb, 2, none⟩) (hb.block L.cb h2)).trans h.ca.c2, fun j => (World.frozen?_of_block (a := ⟨L.cb, j, none⟩) (hb.block L.cb h2)).trans (h.ca.fr j), World.ownsRow_nil _ _ _ _, h.ca.ne, fun e he => by cases he⟩, h.ok⟩
theorem RowO.same {base e s n : Nat} {T : TypeId} {G : Nat} {xs : List Value} (h : w.ownsRow base T s (.slice (some ⟨G, 0, none⟩) n n) n xs) (hb : w'.heap[G]? = w.heap[G]?) : w'.ownsRow base T s (.slice (some ⟨G, 0, none⟩) n n) n xs := by
  refine ⟨h.1, ?_⟩
  rcases h.2 with hn | ⟨g', cap, cur, e', hB, hg, rest⟩
  · exact .inl hn
  · refine .inr ⟨g', cap, cur, e', hB, ?_, rest⟩
    simp at e'
    rw [← e'.1, hb, e'.1]; exact hg
theorem DMD.low (h : DMD w L D) {M : Nat} (hb : Below M w w') (h1 : L.dP < M ∧ L.dp < M ∧ L.dR < M ∧ L.dG < M ∧ L.dQ < M) : DMD w' L D := by
  have hP := hb.block L.dP h1.1
  exact ⟨⟨Nat.lt_of_lt_of_le h.pl.pl hb.size, h.pl.pb, (World.cell?_of_block (a := ⟨L.dP, 0, none⟩) hP).trans h.pl.f0, (World.cell?_of_block (a := ⟨L.dP, 1, none⟩) hP).trans h.pl.f1, h.pl.ar.same2 hb.size (hb.block _ h1.2.1) (hb.block _ h1.2.2.1), RowO.same (e := 0) h.pl.row (hb.block _ h1.2.2.2.1), h.pl.n1, h.pl.n2, h.pl.n3, h.pl.n4⟩, (World.cell?_of_block (a := ⟨L.dP, 2, none⟩) hP).trans h.f2, RowO.same (e := 0) h.qs (hb.block _ h1.2.2.2.2), h.q1, h.q2, h.q3⟩
/-- The banks were changed, and nothing else that was there. -/
theorem BW.bank (h : BW w0 w L D) (hk : BKD w' L D') (hb : Below L.bB w w') (h1 : D' = { D with nb := D'.nb, pr := D'.pr, us := D'.us, lm := D'.lm, o1 := D'.o1, v1 := D'.v1, o2 := D'.o2, v2 := D'.v2, o3 := D'.o3, v3 := D'.v3 }) (hp : PrOk D'.nb D'.pr) (hn : D'.nb ≤ L.n) : BW w0 w' L D' := by
  have hm := MMD.low h.m hb (by have := h.md; have := h.dl; omega) (by have := h.md; have := h.dl; omega) (by have := h.md; have := h.dl; omega)
  have hd := DMD.low h.d hb h.db
  refine ⟨?_, ?_, hk, h.md, h.db, h.dl, hp, hn, h.tt, Nat.le_trans h.tw hb.size⟩
  · rw [h1]; exact hm
  · rw [h1]; exact hd
/-- The pages were changed. -/
theorem BW.page (h : BW w0 w L D) {pt' : Nat → Bool} {pv' : Nat → Int} {pW' : Nat → Nat → Int} (hP : PgAt w' L.b.b L.b.P L.b.p L.b.B L.b.G L.b.n L.b.c pt' pv' pW') (hb : PBelow w w' L.b.B L.b.G) : BW w0 w' L { D with pt := pt', pv := pv', pW := pW' } := by
  have hl := h.m.lo.p
  have hmd := h.md
  have hdl := h.dl
  refine ⟨MemAt.page h.m hP hb ways_nil, DsAt.same h.d hb.2.2.2.1 (fun k hk1 hk2 => hb.2.2.2.2 k hk2 (by omega) (by omega)), BkAt.same h.k hb.2.2.2.1 (fun k hk1 hk2 => hb.2.2.2.2 k hk2 (by omega) (by omega)), h.md, h.db, h.dl, h.pk, h.nn, h.tt, Nat.le_trans h.tw hb.2.2.2.1⟩
theorem BW.node (h : BW w0 w L D) {nt' : Nat → Bool} {nv' : Nat → Int} {nW' : Nat → Nat → Value} (hN : NdAt w' L.a.b L.a.P L.a.p L.a.B L.a.G L.a.n L.a.c nt' nv' nW') (hb : PBelow w w' L.a.B L.a.G) : BW w0 w' L { D with nt := nt', nv := nv', nW := nW' } := by
  have hl := h.m.lo.n
  have hmd := h.md
  have hdl := h.dl
  refine ⟨MemAt.node h.m hN hb ways_nil, DsAt.same h.d hb.2.2.2.1 (fun k hk1 hk2 => hb.2.2.2.2 k hk2 (by omega) (by omega)), BkAt.same h.k hb.2.2.2.1 (fun k hk1 hk2 => hb.2.2.2.2 k hk2 (by omega) (by omega)), h.md, h.db, h.dl, h.pk, h.nn, h.tt, Nat.le_trans h.tw hb.2.2.2.1⟩
/-- The domains were changed. -/
theorem BW.doms (h : BW w0 w L D) {dt' : Nat → Bool} {dv' : Nat → Int} {dW' : Nat → Nat → Value} (hD : DsAt w' L.dB L.dP L.dp L.dR L.dG L.dQ L.dn L.dc dt' dv' dW') (hb : PBelow w w' L.dR L.dG) : BW w0 w' L { D with dt := dt', dv := dv', dW := dW' } := by
  have hdb := h.db
  have hmd := h.md
  have hl1 := h.d.pl.ar.lt.1
  have hl2 := h.d.pl.gl.1
  have hb2 : Below L.dB w w' := hb.below hl1 hl2 h.dlow
  exact ⟨MMD.low h.m hb2 hmd.1 hmd.2.1 hmd.2.2, hD, BkAt.same h.k hb.2.2.2.1 (fun k hk1 hk2 => hb.2.2.2.2 k hk2 (by omega) (by omega)), h.md, h.db, h.dl, h.pk, h.nn, h.tt, Nat.le_trans h.tw hb.2.2.2.1⟩
end
theorem chL_nodup {nb : Nat} {pr : Nat → Int} (hp : PrOk nb pr) (hb : nb ≤ 256) : ∀ (q : Nat) (y : Int), y < q → q ≤ nb → (chL pr y).Nodup := by
  intro q
  induction q with
  | zero => intro y hy _; rw [chL_neg pr y (by omega)]; exact List.nodup_nil
  | succ q ih =>
    intro y hy hq
    by_cases h0 : y < 0
    · rw [chL_neg pr y h0]; exact List.nodup_nil
    · obtain ⟨k, rfl⟩ : ∃ k : Nat, y = k := ⟨y.toNat, by omega⟩
      have h := hp k (by omega)
      rw [chL_cons hp k (by omega) hb, List.nodup_cons]
      exact ⟨fun hm => by have := ((chL_bound hp hb k (pr k) (by omega) (by omega)).2 _ hm).2; omega, ih (pr k) (by omega) (by omega)⟩
/-- So many more for each of a list. -/
def addL (us : Nat → Int) (l : List Int) (x : Int) : Nat → Int := fun i => if l.contains (i : Int) = true then us i + x else us i
theorem addL_nil (us : Nat → Int) (x : Int) : addL us [] x = us := by funext i; simp [addL]
theorem addL_snoc (us : Nat → Int) (l : List Int) (q : Nat) (x : Int) (hq : (q : Int) ∉ l) : upd (addL us l x) q (us q + x) = addL us (l ++ [(q : Int)]) x := by
  funext i
  unfold upd addL
  by_cases e : i = q
  · subst e; simp
  · have e2 : ¬ (i : Int) = (q : Int) := by omega
    simp [e, e2]
theorem take_snoc (L : List Int) (k : Nat) (h : k < L.length) : L.take (k + 1) = L.take k ++ [L.getD k 0] := by
  rw [List.take_succ_eq_append_getElem h]
  simp [List.getD, h]
theorem take_notin (L : List Int) (h : L.Nodup) (k : Nat) (hk : k < L.length) : L.getD k 0 ∉ L.take k := by
  intro hm
  have e : L.getD k 0 = L[k] := by simp [List.getD, hk]
  rw [e] at hm
  rw [List.mem_iff_getElem] at hm
  obtain ⟨i, hi, he⟩ := hm
  simp at hi
  rw [List.getElem_take] at he
  exact List.pairwise_iff_getElem.1 h i k (by omega) hk (by omega) he
set_option maxRecDepth 100000 in
set_option maxHeartbeats 1000000 in
theorem bcount_is {base P p B A G1 G2 G3 n c mb db nb : Nat} {pr us lm o1 v1 o2 v2 o3 v3 : Nat → Int} (l : List Int) (k : Nat) (hk : Hid (l.length = k)) (hk1 : k ≤ 1000) (a : Option Addr) (c2 : Nat) (hl : Hid (∀ z, z ∈ l → 0 ≤ z ∧ z < n)) (hnd : Hid (l.Nodup)) (x : Int) (hx : -1000 ≤ x ∧ x ≤ 1000) (hu : Hid (∀ i, i < n → -1000000 ≤ us i ∧ us i ≤ 1000000)) (w : World) (h : BkAt w base P p B A G1 G2 G3 n c mb db (thN nb) (fun _ => 0) pr us lm o1 v1 o2 v2 o3 v3) (hr : ∀ i, i < k → ∃ g, a = some ⟨g, 0, none⟩ ∧ g < w.heap.size ∧ g ≠ A ∧ w.cell? ⟨g, i, none⟩ = some (.int .i64 (l.getD i 0))) :
    Calls Tryd.prog 45 #[.pointer (some ⟨P, 0, none⟩), .slice a k c2, .int .i64 x] w fun e w' => e = .returned (.tuple #[]) ∧ BkAt w' base P p B A G1 G2 G3 n c mb db (thN nb) (fun _ => 0) pr (addL us l x) lm o1 v1 o2 v2 o3 v3 ∧ w.grownBy w' (some A) := by
  have H := Lib.hid h
  have HR := Lib.hid hr
  have hn := h.ar.le
  clear h hr
  go_enter Tryd.func45, Tryd.ntmps45
  go_wp2_with fail
  go_loopw [10] (fun i wr => ∃ j : Nat, j ≤ k ∧ i = .int .i64 j ∧ BkAt wr base P p B A G1 G2 G3 n c mb db (thN nb) (fun _ => 0) pr (addL us (l.take j) x) lm o1 v1 o2 v2 o3 v3 ∧ w.grownBy wr (some A)) (fun i _ => k - (intOf i).toNat)
  case atStart => exact ⟨0, by omega, rfl, by rw [List.take_zero, addL_nil]; exact H.out, ⟨rfl, rfl, rfl, Nat.le_refl _, fun _ _ _ => rfl⟩⟩
  case round =>
    obtain ⟨j, hj, rfl, hB, hg⟩ := hrel
    have HB := Lib.hid hB
    have HG := Lib.hid hg
    clear hB hg
    by_cases hlt : j < k
    · obtain ⟨g, hag, hgl, hgA, hc⟩ := HR.out j hlt
      have hc2 := (World.cell?_of_block (a := ⟨g, j, none⟩) (HG.out.block g hgl (fun e => hgA (by injection e)))).trans hc
      have hjl : j < l.length := by rw [hk.out]; exact hlt
      have hm : l.getD j 0 ∈ l := by simp [List.getD, hjl]
      have hq := hl.out _ hm
      have hni := take_notin l hnd.out j hjl
      have hts := take_snoc l j hjl
      obtain ⟨q, hq0⟩ : ∃ q : Nat, l.getD j 0 = q := ⟨(l.getD j 0).toNat, by omega⟩
      rw [hq0] at hc2 hq hni hts
      have hqn : q < n := by omega
      have hv : addL us (l.take j) x q = us q := by
        unfold addL
        rw [if_neg (by rw [List.contains_iff_mem]; exact hni)]
      have c1 := HB.out.ac1 q hqn
      rw [hv] at c1
      have hu2 := hu.out q hqn
      have f3 := HB.out.f3
      have z1 := HB.out.ac.fr (q * 3 + 1)
      have HS := HB.out.setU q hqn (us q + x)
      rw [addL_snoc us (l.take j) q x hni, ← hts] at HS
      have HS := Lib.hid HS
      have HGS := Lib.hid (grown_more HG.out ((HB.out.ac.set q 1 hqn (by decide) (.int .i64 (us q + x))).2))
      have hwr : IntKind.i64.wrap (us q + x) = us q + x := by rw [IntKind.wrap_i64]; omega
      generalize us q = uq at c1 hwr HS HGS
      have k0 : (0 : Int) ≤ j := by omega
      have k1 : (0 : Int) ≤ q := by omega
      have k2 : (q : Int) < n := by omega
      subst hag
      clear hc hts hni hm hq hq0 hv hu2
      go_wp2_with fail
      go_roundw
      case rel => exact ⟨j + 1, by omega, by go_num, HS.out.1, HGS.out⟩
      case measure => simp [intOf]; omega
    · obtain rfl : j = k := by omega
      have hdd : decide (j < j) = false := by simp
      have HT : Hid (l.take j = l) := Lib.hid (List.take_of_length_le (by rw [hk.out]; exact Nat.le_refl _))
      go_wp2_with fail
      go_end0
      exact ⟨rfl, by rw [← HT.out]; exact HB.out, HG.out⟩
set_option maxRecDepth 100000 in
theorem bfull_is {base P p B A G1 G2 G3 n c mb db nb : Nat} {pr us lm o1 v1 o2 v2 o3 v3 : Nat → Int} (q : Nat) (hq : q < n) (t : Bool) (ht : Hid (decide (lm q ≤ us q) = t)) (w : World) (h : BkAt w base P p B A G1 G2 G3 n c mb db (thN nb) (fun _ => 0) pr us lm o1 v1 o2 v2 o3 v3) :
    Calls Tryd.prog 58 #[.pointer (some ⟨P, 0, none⟩), .int .i64 (q : Int)] w fun e w' => e = .returned (.bool t) ∧ Below w.heap.size w w' := by
  have hd := Lib.hid (h.below (Below.refl w.heap.size w).drew)
  have f3 := h.f3
  have c1 := h.ac1 q hq
  have c2 := h.ac2 q hq
  have ht2 := ht.out
  have k1 : (0 : Int) ≤ q := by omega
  have k2 : (q : Int) < n := by omega
  clear h ht
  generalize us q = x at c1 ht2
  generalize lm q = y at c2 ht2
  go_enter Tryd.func58, Tryd.ntmps58
  go_wp2_with fail
  go_quiet (fail)
  go_wp2_with fail
  go_ret
  exact ⟨rfl, below_drewN (Below.refl _ _) _⟩
end Go.Proofs.YtagiabcmbihoaaaDoor
namespace Go.Proofs.YtagiabcmbihoaaaDoor
open Go.ChangeShapes Go.WideShapes Go.ChangeAt Go.RowKit
set_option linter.unusedVariables false
set_option linter.unusedSimpArgs false
abbrev fnFullV (P : Nat) : Value := .func (.func 58) #[.pointer (some ⟨P, 0, none⟩)] #[]
section
variable {w0 w w' : World} {L : BLoc} {D : BSt}
theorem BW.kk (h : BW w0 w L D) : BkAt w L.bB L.P L.p L.B L.A L.G1 L.G2 L.G3 L.n L.c L.mb L.dP (thN D.nb) (fun _ => 0) D.pr D.us D.lm D.o1 D.v1 D.o2 D.v2 D.o3 D.v3 := h.k
theorem BW.dd (h : BW w0 w L D) : DsAt w L.dB L.dP L.dp L.dR L.dG L.dQ L.dn L.dc D.dt D.dv D.dW := h.d
theorem BW.mm (h : BW w0 w L D) : MemAt w0 w L.mb L.S L.a L.b L.N L.cb L.z D.nt D.nv D.nW D.pt D.pv D.pW 0 (.slice none 0 0) [] := h.m
theorem BW.n256 (h : BW w0 w L D) : L.n ≤ 256 := h.kk.ar.le
theorem BW.pn (h : BW w0 w L D) : L.b.n ≤ 256 := h.mm.sv.st.pg.ar.le
theorem BW.an (h : BW w0 w L D) : L.a.n ≤ 256 := h.mm.sv.st.nd.ar.le
theorem BW.dn256 (h : BW w0 w L D) : L.dn ≤ 256 := h.dd.pl.ar.le
theorem BW.lowT (h : BW w0 w L D) : L.mb < L.T ∧ L.S < L.T ∧ L.a.B < L.T ∧ L.a.G < L.T ∧ L.b.B < L.T ∧ L.b.G < L.T ∧ L.cb < L.T ∧ L.dR < L.T ∧ L.dG < L.T := by
  have h1 := h.mm.lo
  have h2 := h.md
  have h3 := h.dl
  have h4 := h.tt
  have h5 := h.db
  have h6 := h1.s
  have h7 := h1.n
  have h8 := h1.p
  omega
end
/-- A row of numbers that was made behind it all stays. -/
theorem rowT {w1 : World} {T M0 : Nat} {v : Value} {l : List Int} {a : Option Addr} {m c : Nat} (hr : w1.ownsRow M0 3 1 v l.length (l.map (Value.int .i64))) (hv : v = .slice a m c) (hm : l.length = m) (hT : T ≤ M0) (W : World) (hu : UpT T w1 W) : ∀ i, i < m → ∃ g, a = some ⟨g, 0, none⟩ ∧ T ≤ g ∧ g < W.heap.size ∧ W.cell? ⟨g, i, none⟩ = some (.int .i64 (l.getD i 0)) := by
  intro i hi
  obtain ⟨a', c', hv', ha⟩ := own_ints hr
  rw [hv] at hv'
  have e1 : a = a' := by injection hv'
  obtain ⟨g, hg, hc, hB, hlt⟩ := ha (by omega)
  rw [← e1] at hg
  exact ⟨g, hg, by omega, Nat.lt_of_lt_of_le hlt hu.1, (World.cell?_of_block (a := ⟨g, i, none⟩) (hu.2 g (by omega) hlt)).trans (hc i (by omega))⟩
def fullB (us lm : Nat → Int) (z : Int) : Bool := decide (lm z.toNat ≤ us z.toNat)
set_option maxRecDepth 100000 in
set_option maxHeartbeats 1000000 in
theorem bidx_no {base P p B A G1 G2 G3 n c mb db nb : Nat} {pr us lm o1 v1 o2 v2 o3 v3 : Nat → Int} (l : List Int) (k : Nat) (hk : Hid (l.length = k)) (hk1 : k ≤ 1000) (a : Option Addr) (c2 : Nat) (hl : Hid (∀ z, z ∈ l → 0 ≤ z ∧ z < n)) (hno : Hid (∀ i, i < k → fullB us lm (l.getD i 0) = false)) (w : World) (h : BkAt w base P p B A G1 G2 G3 n c mb db (thN nb) (fun _ => 0) pr us lm o1 v1 o2 v2 o3 v3) (hr : ∀ i, i < k → ∃ g, a = some ⟨g, 0, none⟩ ∧ g < w.heap.size ∧ w.cell? ⟨g, i, none⟩ = some (.int .i64 (l.getD i 0))) :
    Calls Tryd.prog 73 #[.slice a k c2, fnFullV P] w fun e w' => e = .returned (.int .i64 (-1)) ∧ Below w.heap.size w w' := by
  have H := Lib.hid h
  have HR := Lib.hid hr
  clear h hr
  go_enter Tryd.func73, Tryd.ntmps73
  go_wp2_with fail
  go_loopw [8] (fun i wr => ∃ j : Nat, j ≤ k ∧ i = .int .i64 j ∧ Below w.heap.size w wr) (fun i _ => k - (intOf i).toNat)
  case atStart => exact ⟨0, by omega, rfl, Below.refl _ _⟩
  case round =>
    obtain ⟨j, hj, rfl, hB⟩ := hrel
    have HB := Lib.hid hB
    by_cases hlt : j < k
    · obtain ⟨g, hag, hgl, hc⟩ := HR.out j hlt
      have hc2 := (hB.cell (p := ⟨g, j, none⟩) hgl).trans hc
      have hm : l.getD j 0 ∈ l := by have := hk.out; simp [List.getD, show j < l.length by omega]
      have hq := hl.out _ hm
      have hf := hno.out j hlt
      obtain ⟨q, hq0⟩ : ∃ q : Nat, l.getD j 0 = q := ⟨(l.getD j 0).toNat, by omega⟩
      rw [hq0] at hc2 hq hf
      have HF : Hid (decide (lm q ≤ us q) = false) := Lib.hid hf
      have hqn : q < n := by omega
      subst hag
      have k0 : (0 : Int) ≤ j := by omega
      clear hB hc hm hq hq0 hf
      go_wp2_with (first | (go_at_call 58; (with_reducible refine (bfull_is q hqn false HF _ (H.out.below HB.out)).mono ?_); rintro e w1 ⟨rfl, hb⟩; have HB2 := Lib.hid (HB.out.trans (hb.mono HB.out.size)); clear hb hc2))
      go_roundw
      case rel => exact ⟨j + 1, by omega, by go_num, HB2.out⟩
      case measure => simp [intOf]; omega
    · obtain rfl : j = k := by omega
      have hdd : decide (j < j) = false := by simp
      clear hB
      go_wp2
      go_ret
      exact ⟨rfl, HB.out⟩
set_option maxRecDepth 100000 in
set_option maxHeartbeats 1000000 in
theorem bidx_yes {base P p B A G1 G2 G3 n c mb db nb : Nat} {pr us lm o1 v1 o2 v2 o3 v3 : Nat → Int} (l : List Int) (k : Nat) (hk : Hid (l.length = k)) (hk1 : k ≤ 1000) (a : Option Addr) (c2 : Nat) (hl : Hid (∀ z, z ∈ l → 0 ≤ z ∧ z < n)) (s : Nat) (hs : s < k) (hno : Hid (∀ i, i < s → fullB us lm (l.getD i 0) = false)) (hyes : Hid (fullB us lm (l.getD s 0) = true)) (w : World) (h : BkAt w base P p B A G1 G2 G3 n c mb db (thN nb) (fun _ => 0) pr us lm o1 v1 o2 v2 o3 v3) (hr : ∀ i, i < k → ∃ g, a = some ⟨g, 0, none⟩ ∧ g < w.heap.size ∧ w.cell? ⟨g, i, none⟩ = some (.int .i64 (l.getD i 0))) :
    Calls Tryd.prog 73 #[.slice a k c2, fnFullV P] w fun e w' => e = .returned (.int .i64 s) ∧ Below w.heap.size w w' := by
  have H := Lib.hid h
  have HR := Lib.hid hr
  clear h hr
  go_enter Tryd.func73, Tryd.ntmps73
  go_wp2_with fail
  go_loopw [8] (fun i wr => ∃ j : Nat, j ≤ s ∧ i = .int .i64 j ∧ Below w.heap.size w wr) (fun i _ => k - (intOf i).toNat)
  case atStart => exact ⟨0, by omega, rfl, Below.refl _ _⟩
  case round =>
    obtain ⟨j, hj, rfl, hB⟩ := hrel
    have HB := Lib.hid hB
    have hlt : j < k := by omega
    obtain ⟨g, hag, hgl, hc⟩ := HR.out j hlt
    have hc2 := (hB.cell (p := ⟨g, j, none⟩) hgl).trans hc
    have hm : l.getD j 0 ∈ l := by have := hk.out; simp [List.getD, show j < l.length by omega]
    have hq := hl.out _ hm
    obtain ⟨q, hq0⟩ : ∃ q : Nat, l.getD j 0 = q := ⟨(l.getD j 0).toNat, by omega⟩
    rw [hq0] at hc2 hq
    have hqn : q < n := by omega
    subst hag
    have k0 : (0 : Int) ≤ j := by omega
    by_cases hjs : j < s
    · have hf := hno.out j hjs
      rw [hq0] at hf
      have HF : Hid (decide (lm q ≤ us q) = false) := Lib.hid hf
      clear hB hc hm hq hq0 hf
      go_wp2_with (first | (go_at_call 58; (with_reducible refine (bfull_is q hqn false HF _ (H.out.below HB.out)).mono ?_); rintro e w1 ⟨rfl, hb⟩; have HB2 := Lib.hid (HB.out.trans (hb.mono HB.out.size)); clear hb hc2))
      go_roundw
      case rel => exact ⟨j + 1, by omega, by go_num, HB2.out⟩
      case measure => simp [intOf]; omega
    · obtain rfl : j = s := by omega
      have hf := hyes.out
      rw [hq0] at hf
      have HF : Hid (decide (lm q ≤ us q) = true) := Lib.hid hf
      clear hB hc hm hq hq0 hf
      go_wp2_with (first | (go_at_call 58; (with_reducible refine (bfull_is q hqn true HF _ (H.out.below HB.out)).mono ?_); rintro e w1 ⟨rfl, hb⟩; have HB2 := Lib.hid (HB.out.trans (hb.mono HB.out.size)); clear hb hc2))
      go_ret
      exact ⟨rfl, HB2.out⟩
set_option maxRecDepth 100000 in
theorem bcf_is {base P p B A G1 G2 G3 n c mb db nb : Nat} {pr us lm o1 v1 o2 v2 o3 v3 : Nat → Int} (l : List Int) (k : Nat) (hk : Hid (l.length = k)) (hk1 : k ≤ 1000) (a : Option Addr) (c2 : Nat) (hl : Hid (∀ z, z ∈ l → 0 ≤ z ∧ z < n)) (t : Bool) (ht : Hid (l.any (fullB us lm) = t)) (w : World) (h : BkAt w base P p B A G1 G2 G3 n c mb db (thN nb) (fun _ => 0) pr us lm o1 v1 o2 v2 o3 v3) (hr : ∀ i, i < k → ∃ g, a = some ⟨g, 0, none⟩ ∧ g < w.heap.size ∧ w.cell? ⟨g, i, none⟩ = some (.int .i64 (l.getD i 0))) :
    Calls Tryd.prog 57 #[.slice a k c2, fnFullV P] w fun e w' => e = .returned (.bool t) ∧ Below w.heap.size w w' := by
  have hkl := hk.out
  rcases first_at (fun i => fullB us lm (l.getD i 0)) k with hno | ⟨s, hs, hy, hno⟩
  · have ht0 : t = false := by
      rw [← ht.out, List.any_eq_false]
      intro z hz
      obtain ⟨i, hi, rfl⟩ := (mem_getD l z).1 hz
      rw [hno i (by omega)]
      decide
    subst ht0
    have HC := Lib.hid (bidx_no l k hk hk1 a c2 hl (Lib.hid hno) w h hr)
    clear h hr hno ht hkl
    go_enter Tryd.func57, Tryd.ntmps57
    go_wp2_with (first | (go_at_call 73; (with_reducible refine HC.out.mono ?_); rintro e w1 ⟨rfl, hb⟩; have HB := Lib.hid hb; clear hb))
    go_ret
    exact ⟨rfl, HB.out⟩
  · have ht1 : t = true := by
      rw [← ht.out, List.any_eq_true]
      exact ⟨l.getD s 0, (mem_getD l _).2 ⟨s, by omega, rfl⟩, hy⟩
    subst ht1
    have HC := Lib.hid (bidx_yes l k hk hk1 a c2 hl s hs (Lib.hid hno) (Lib.hid hy) w h hr)
    have s0 : decide ((0 : Int) ≤ (s : Int)) = true := decide_eq_true (by omega)
    clear h hr hno hy ht hkl
    go_enter Tryd.func57, Tryd.ntmps57
    go_wp2_with (first | (go_at_call 73; (with_reducible refine HC.out.mono ?_); rintro e w1 ⟨rfl, hb⟩; have HB := Lib.hid hb; clear hb))
    go_ret
    exact ⟨rfl, HB.out⟩
set_option maxRecDepth 100000 in
theorem bpageof_ok (a : Option Addr) (m c2 : Nat) (xs : List Int) (hm : Hid (xs.length = m)) (hx : m ≤ 32) (w : World) (hs : ∀ B G, w.heap.size ≤ B → w.heap.size ≤ G → SrcU w a xs B G) :
    Calls Tryd.prog 30 #[.slice a m c2] w fun e w' => e = .returned .nilIface ∧ Below w.heap.size w w' := by
  have HS := Lib.hid hs
  clear hs
  go_enter Tryd.func30, Tryd.ntmps30
  go_wp2_with (first
    | (go_at_call 61; (with_reducible refine (pnew_ok 1 1 (Lib.hid rfl) (by decide) (by decide) _).mono ?_); rintro e w1 ⟨P, p, B, G, rfl, hP, hb⟩; have HP := Lib.hid hP; have HB := Lib.hid hb; have HS1 : Hid (SrcU w1 a xs B G) := Lib.hid ⟨fun j hj => by obtain ⟨ad, h1, h2, h3, h4, h5⟩ := (HS.out B G hP.ar.lt.1 (hP.row.lt G rfl).1).src j hj; exact ⟨ad, h1, Nat.lt_of_lt_of_le h2 hb.size, h3, h4, (hb.cell (p := ad.add j) (by rw [add_block']; exact h2)).trans h5⟩⟩; clear hP hb)
    | (go_at_call 32; (with_reducible refine (pmake_at 0 a m c2 xs hm hx 0 (Lib.hid rfl) (by decide) (Lib.hid (by decide)) (Lib.hid (by intro i hi; omega)) 0 (Lib.hid rfl) _ HP.out HS1.out).mono ?_); rintro e w2 ⟨rfl, hP2, hb2⟩; have HB2 := Lib.hid (HB.out.trans (hb2.below (b := w.heap.size) HP.out.ar.lt.1 (HP.out.row.lt G rfl).1 HB.out.size)); clear hP2 hb2))
  go_ret
  exact ⟨rfl, HB2.out⟩
set_option maxRecDepth 100000 in
set_option maxHeartbeats 1000000 in
theorem bpgcl_ok {w0 : World} {L : BLoc} {D : BSt} (x y : Nat) (a : Option Addr) (m c2 : Nat) (xs : List Int) (hm : Hid (xs.length = m)) (hx : m ≤ 32) (j : Nat) (hj : j < L.b.n) (hyes : Hid (freeB D.pt D.pv j = true)) (hno : Hid (∀ i, i < j → freeB D.pt D.pv i = false)) (v : Int) (hv : Hid (D.pv j = v)) (w : World) (h : BW w0 w L D) (hxy : L.T ≤ x ∧ x < w.heap.size ∧ L.T ≤ y ∧ y < w.heap.size) (cx : w.cell? ⟨x, 0, none⟩ = some (.pointer (some ⟨L.P, 0, none⟩))) (cy : w.cell? ⟨y, 0, none⟩ = some (.slice a m c2)) (hs : SrcU w a xs L.b.B L.b.G) :
    Calls Tryd.prog 31 #[.pointer (some ⟨x, 0, none⟩), .pointer (some ⟨y, 0, none⟩)] w fun e w' => e = .returned (.tuple #[.int .i64 j, .int .i64 v, .nilIface]) ∧ BW w0 w' L { D with pt := upd D.pt j true, pW := fresh D.pW j xs } ∧ PBelow w w' L.b.B L.b.G := by
  obtain ⟨wD, hwD⟩ : ∃ wD, wD = w.drew := ⟨_, rfl⟩
  have hbD : Below w.heap.size w wD := by rw [hwD]; exact (Below.refl _ _).drew
  have HD := Lib.hid (h.below hbD)
  have HSr : Hid (SrcU wD a xs L.b.B L.b.G) := Lib.hid ⟨fun q hq => by obtain ⟨ad, h1, h2, h3, h4, h5⟩ := hs.src q hq; exact ⟨ad, h1, Nat.lt_of_lt_of_le h2 hbD.size, h3, h4, (hbD.cell (p := ad.add q) (by rw [add_block']; exact h2)).trans h5⟩⟩
  have HBD := Lib.hid (PBelow.of_below (B := L.b.B) (G := L.b.G) hbD)
  have HS7 : Hid (∀ W, BW w0 W L { D with pt := upd D.pt j true, pW := fresh D.pW j xs } → UpT L.T w W → (World.cell? W ⟨x, 0, none⟩ = some (.pointer (some ⟨L.P, 0, none⟩)) ∧ World.cell? W ⟨L.P, 1, none⟩ = some (.pointer (some ⟨L.mb, 0, none⟩)) ∧ World.cell? W ⟨L.mb, 0, none⟩ = some (.pointer (some ⟨L.S, 0, none⟩)) ∧ World.cell? W ⟨L.S, 1, none⟩ = some (.pointer (some ⟨L.b.P, 0, none⟩)) ∧ World.cell? W ⟨y, 0, none⟩ = some (.slice a m c2))) := Lib.hid (fun W hW hu => ⟨(World.cell?_of_block (a := ⟨x, 0, none⟩) (hu.2 x hxy.1 hxy.2.1)).trans cx, hW.kk.f1, hW.mm.m0, hW.mm.sv.st.s1, (World.cell?_of_block (a := ⟨y, 0, none⟩) (hu.2 y hxy.2.2.1 hxy.2.2.2)).trans cy⟩)
  have hS0 : (World.cell? wD ⟨x, 0, none⟩ = some (.pointer (some ⟨L.P, 0, none⟩)) ∧ World.cell? wD ⟨L.P, 1, none⟩ = some (.pointer (some ⟨L.mb, 0, none⟩)) ∧ World.cell? wD ⟨L.mb, 0, none⟩ = some (.pointer (some ⟨L.S, 0, none⟩)) ∧ World.cell? wD ⟨L.S, 1, none⟩ = some (.pointer (some ⟨L.b.P, 0, none⟩)) ∧ World.cell? wD ⟨y, 0, none⟩ = some (.slice a m c2)) := ⟨(hbD.cell (p := ⟨x, 0, none⟩) hxy.2.1).trans cx, HD.out.kk.f1, HD.out.mm.m0, HD.out.mm.sv.st.s1, (hbD.cell (p := ⟨y, 0, none⟩) hxy.2.2.2).trans cy⟩
  have HLT := Lib.hid h.lowT
  clear h hs cx cy hbD
  go_enter Tryd.func31, Tryd.ntmps31
  go_upto_region 1 with fail
  refine wp_region_noPanic ?_
  refine wp_region_held_drew (S := fun w' => (World.cell? w' ⟨x, 0, none⟩ = some (.pointer (some ⟨L.P, 0, none⟩)) ∧ World.cell? w' ⟨L.P, 1, none⟩ = some (.pointer (some ⟨L.mb, 0, none⟩)) ∧ World.cell? w' ⟨L.mb, 0, none⟩ = some (.pointer (some ⟨L.S, 0, none⟩)) ∧ World.cell? w' ⟨L.S, 1, none⟩ = some (.pointer (some ⟨L.b.P, 0, none⟩)) ∧ World.cell? w' ⟨y, 0, none⟩ = some (.slice a m c2))) (by kernel_rfl) (by rw [← hwD]; exact hS0) (fun hHeld => ?_)
  rw [← hwD] at hHeld ⊢
  clear hwD hS0
  refine wpAnyH_take (i := 0) (v := ?_) (by rfl) (by kernel_rfl) (by kernel_rfl) (by kernel_rfl) (fun _ _ _ h => h) (Or.inl ⟨by kernel_rfl, ?_⟩) (by assumption) ?_; rotate_left 1; (focus (intro w hSw; (try dsimp only at hSw); simp only [List.getElem_toArray, List.getElem_cons_succ, List.getElem_cons_zero]; all_goals go_simp; all_goals (try with_reducible rfl))); (try simp only [Act.put, List.getElem_toArray, List.getElem_cons_succ, List.getElem_cons_zero, List.setIfInBounds_toArray, List.set_cons_zero, List.set_cons_succ])
  refine wpAnyH_take (i := 1) (v := ?_) (by rfl) (by kernel_rfl) (by kernel_rfl) (by kernel_rfl) (fun _ _ _ h => h) (Or.inl ⟨by kernel_rfl, ?_⟩) (by assumption) ?_; rotate_left 1; (focus (intro w hSw; (try dsimp only at hSw); simp only [List.getElem_toArray, List.getElem_cons_succ, List.getElem_cons_zero]; all_goals go_simp; all_goals (try with_reducible rfl))); (try simp only [Act.put, List.getElem_toArray, List.getElem_cons_succ, List.getElem_cons_zero, List.setIfInBounds_toArray, List.set_cons_zero, List.set_cons_succ])
  refine wpAnyH_take (i := 2) (v := ?_) (by rfl) (by kernel_rfl) (by kernel_rfl) (by kernel_rfl) (fun _ _ _ h => h) (Or.inl ⟨by kernel_rfl, ?_⟩) (by assumption) ?_; rotate_left 1; (focus (intro w hSw; (try dsimp only at hSw); simp only [List.getElem_toArray, List.getElem_cons_succ, List.getElem_cons_zero]; all_goals go_simp; all_goals (try with_reducible rfl))); (try simp only [Act.put, List.getElem_toArray, List.getElem_cons_succ, List.getElem_cons_zero, List.setIfInBounds_toArray, List.set_cons_zero, List.set_cons_succ])
  refine wpAnyH_take (i := 3) (v := ?_) (by rfl) (by kernel_rfl) (by kernel_rfl) (by kernel_rfl) (fun _ _ _ h => h) (Or.inl ⟨by kernel_rfl, ?_⟩) (by assumption) ?_; rotate_left 1; (focus (intro w hSw; (try dsimp only at hSw); simp only [List.getElem_toArray, List.getElem_cons_succ, List.getElem_cons_zero]; all_goals go_simp; all_goals (try with_reducible rfl))); (try simp only [Act.put, List.getElem_toArray, List.getElem_cons_succ, List.getElem_cons_zero, List.setIfInBounds_toArray, List.set_cons_zero, List.set_cons_succ])
  refine wpAnyH_take (i := 4) (v := ?_) (by rfl) (by kernel_rfl) (by kernel_rfl) (by kernel_rfl) (fun _ _ _ h => h) (Or.inl ⟨by kernel_rfl, ?_⟩) (by assumption) ?_; rotate_left 1; (focus (intro w hSw; (try dsimp only at hSw); simp only [List.getElem_toArray, List.getElem_cons_succ, List.getElem_cons_zero]; all_goals go_simp; all_goals (try with_reducible rfl))); (try simp only [Act.put, List.getElem_toArray, List.getElem_cons_succ, List.getElem_cons_zero, List.setIfInBounds_toArray, List.set_cons_zero, List.set_cons_succ])
  refine wpAnyH_take (i := 5) (v := ?_) (by rfl) (by kernel_rfl) (by kernel_rfl) (by kernel_rfl) (fun _ _ _ h => h) (Or.inl ⟨by kernel_rfl, ?_⟩) (by assumption) ?_; rotate_left 1; (focus (intro w hSw; (try dsimp only at hSw); simp only [List.getElem_toArray, List.getElem_cons_succ, List.getElem_cons_zero]; all_goals go_simp; all_goals (try with_reducible rfl))); (try simp only [Act.put, List.getElem_toArray, List.getElem_cons_succ, List.getElem_cons_zero, List.setIfInBounds_toArray, List.set_cons_zero, List.set_cons_succ])
  refine wpAnyH_take (i := 6) (v := ?_) (by rfl) (by kernel_rfl) (by kernel_rfl) (by kernel_rfl) (fun _ _ _ h => h) (Or.inl ⟨by kernel_rfl, ?_⟩) (by assumption) ?_; rotate_left 1; (focus (intro w hSw; (try dsimp only at hSw); simp only [List.getElem_toArray, List.getElem_cons_succ, List.getElem_cons_zero]; all_goals go_simp; all_goals (try with_reducible rfl))); (try simp only [Act.put, List.getElem_toArray, List.getElem_cons_succ, List.getElem_cons_zero, List.setIfInBounds_toArray, List.set_cons_zero, List.set_cons_succ])
  refine wpAnyH_take (i := 7) (v := ?_) (by rfl) (by kernel_rfl) (by kernel_rfl) (by kernel_rfl) (fun _ _ _ h => h) (Or.inl ⟨by kernel_rfl, ?_⟩) (by assumption) ?_; rotate_left 1; (focus (intro w hSw; (try dsimp only at hSw); simp only [List.getElem_toArray, List.getElem_cons_succ, List.getElem_cons_zero]; all_goals go_simp; all_goals (try with_reducible rfl))); (try simp only [Act.put, List.getElem_toArray, List.getElem_cons_succ, List.getElem_cons_zero, List.setIfInBounds_toArray, List.set_cons_zero, List.set_cons_succ])
  refine wpAnyH_take (i := 8) (v := ?_) (by rfl) (by kernel_rfl) (by kernel_rfl) (by kernel_rfl) (fun _ _ _ h => h) (Or.inl ⟨by kernel_rfl, ?_⟩) (by assumption) ?_; rotate_left 1; (focus (intro w hSw; (try dsimp only at hSw); simp only [List.getElem_toArray, List.getElem_cons_succ, List.getElem_cons_zero]; all_goals go_simp; all_goals (try with_reducible rfl))); (try simp only [Act.put, List.getElem_toArray, List.getElem_cons_succ, List.getElem_cons_zero, List.setIfInBounds_toArray, List.set_cons_zero, List.set_cons_succ])
  refine wpAnyH_take (i := 9) (v := ?_) (by rfl) (by kernel_rfl) (by kernel_rfl) (by kernel_rfl) (fun _ _ _ h => h) (Or.inl ⟨by kernel_rfl, ?_⟩) (by assumption) ?_; rotate_left 1; (focus (intro w hSw; (try dsimp only at hSw); simp only [List.getElem_toArray, List.getElem_cons_succ, List.getElem_cons_zero]; all_goals go_simp; all_goals (try with_reducible rfl))); (try simp only [Act.put, List.getElem_toArray, List.getElem_cons_succ, List.getElem_cons_zero, List.setIfInBounds_toArray, List.set_cons_zero, List.set_cons_succ])
  refine wpAnyH_take (i := 10) (v := ?_) (by rfl) (by kernel_rfl) (by kernel_rfl) (by kernel_rfl) (fun _ _ _ h => h) (Or.inl ⟨by kernel_rfl, ?_⟩) (by assumption) ?_; rotate_left 1; (focus (intro w hSw; (try dsimp only at hSw); simp only [List.getElem_toArray, List.getElem_cons_succ, List.getElem_cons_zero]; all_goals go_simp; all_goals (try with_reducible rfl))); (try simp only [Act.put, List.getElem_toArray, List.getElem_cons_succ, List.getElem_cons_zero, List.setIfInBounds_toArray, List.set_cons_zero, List.set_cons_succ])
  refine wpAnyH_ready (rs := [11]) (by kernel_rfl) (by simp) ?_; refine AllReadyH.cons (by rfl) (fun K hK => ?_) AllReadyH.nil; rw [if_pos (by kernel_rfl)]; simp only [List.getElem_toArray, List.getElem_cons_succ, List.getElem_cons_zero]
  go_wp2_with (first
    | (go_at_call 32; (with_reducible refine (pmake_ok a m c2 xs hm hx j hj hyes hno v hv _ HD.out.mm.sv.st.pg HSr.out).mono ?_); rintro e w2 ⟨rfl, hP2, hb2⟩; have HB2 := Lib.hid (HBD.out.trans hb2); have HW2 := Lib.hid (HD.out.page hP2 hb2); clear hP2 hb2))
  refine hK.out _ _ (HS7.out _ HW2.out (UpT.pb HB2.out (by have := HLT.out; omega) (by have := HLT.out; omega))) (fun hHeld => ?_)
  clear hK K
  (try simp only [Act.put, List.getElem_toArray, List.getElem_cons_succ, List.getElem_cons_zero, List.setIfInBounds_toArray, List.set_cons_zero, List.set_cons_succ])
  refine wpAnyH_take (i := 12) (v := ?_) (by rfl) (by kernel_rfl) (by kernel_rfl) (by kernel_rfl) (fun _ _ _ h => h) (Or.inl ⟨by kernel_rfl, ?_⟩) (by assumption) ?_; rotate_left 1; (focus (intro w hSw; (try dsimp only at hSw); simp only [List.getElem_toArray, List.getElem_cons_succ, List.getElem_cons_zero]; all_goals go_simp; all_goals (try with_reducible rfl))); (try simp only [Act.put, List.getElem_toArray, List.getElem_cons_succ, List.getElem_cons_zero, List.setIfInBounds_toArray, List.set_cons_zero, List.set_cons_succ])
  refine wpAnyH_take (i := 13) (v := ?_) (by rfl) (by kernel_rfl) (by kernel_rfl) (by kernel_rfl) (fun _ _ _ h => h) (Or.inl ⟨by kernel_rfl, ?_⟩) (by assumption) ?_; rotate_left 1; (focus (intro w hSw; (try dsimp only at hSw); simp only [List.getElem_toArray, List.getElem_cons_succ, List.getElem_cons_zero]; all_goals go_simp; all_goals (try with_reducible rfl))); (try simp only [Act.put, List.getElem_toArray, List.getElem_cons_succ, List.getElem_cons_zero, List.setIfInBounds_toArray, List.set_cons_zero, List.set_cons_succ])
  refine wpAnyH_take (i := 14) (v := ?_) (by rfl) (by kernel_rfl) (by kernel_rfl) (by kernel_rfl) (fun _ _ _ h => h) (Or.inl ⟨by kernel_rfl, ?_⟩) (by assumption) ?_; rotate_left 1; (focus (intro w hSw; (try dsimp only at hSw); simp only [List.getElem_toArray, List.getElem_cons_succ, List.getElem_cons_zero]; all_goals go_simp; all_goals (try with_reducible rfl))); (try simp only [Act.put, List.getElem_toArray, List.getElem_cons_succ, List.getElem_cons_zero, List.setIfInBounds_toArray, List.set_cons_zero, List.set_cons_succ])
  refine wpAnyH_take (i := 15) (v := ?_) (by rfl) (by kernel_rfl) (by kernel_rfl) (by kernel_rfl) (fun _ _ _ h => h) (Or.inl ⟨by kernel_rfl, ?_⟩) (by assumption) ?_; rotate_left 1; (focus (intro w hSw; (try dsimp only at hSw); simp only [List.getElem_toArray, List.getElem_cons_succ, List.getElem_cons_zero]; all_goals go_simp; all_goals (try with_reducible rfl))); (try simp only [Act.put, List.getElem_toArray, List.getElem_cons_succ, List.getElem_cons_zero, List.setIfInBounds_toArray, List.set_cons_zero, List.set_cons_succ])
  refine wpAnyH_take (i := 16) (v := ?_) (by rfl) (by kernel_rfl) (by kernel_rfl) (by kernel_rfl) (fun _ _ _ h => h) (Or.inl ⟨by kernel_rfl, ?_⟩) (by assumption) ?_; rotate_left 1; (focus (intro w hSw; (try dsimp only at hSw); simp only [List.getElem_toArray, List.getElem_cons_succ, List.getElem_cons_zero]; all_goals go_simp; all_goals (try with_reducible rfl))); (try simp only [Act.put, List.getElem_toArray, List.getElem_cons_succ, List.getElem_cons_zero, List.setIfInBounds_toArray, List.set_cons_zero, List.set_cons_succ])
  refine wpAnyH_take (i := 17) (v := ?_) (by rfl) (by kernel_rfl) (by kernel_rfl) (by kernel_rfl) (fun _ _ _ h => h) (Or.inl ⟨by kernel_rfl, ?_⟩) (by assumption) ?_; rotate_left 1; (focus (intro w hSw; (try dsimp only at hSw); simp only [List.getElem_toArray, List.getElem_cons_succ, List.getElem_cons_zero]; all_goals go_simp; all_goals (try with_reducible rfl))); (try simp only [Act.put, List.getElem_toArray, List.getElem_cons_succ, List.getElem_cons_zero, List.setIfInBounds_toArray, List.set_cons_zero, List.set_cons_succ])
  refine wpAnyH_done (by kernel_rfl) ?_ _
  refine NoPanic.normal ?_
  go_wp2_with fail
  go_ret3
  exact ⟨rfl, HW2.out, HB2.out⟩
end Go.Proofs.YtagiabcmbihoaaaDoor
namespace Go.Proofs.YtagiabcmbihoaaaDoor
open Go.ChangeShapes Go.WideShapes Go.ChangeAt Go.RowKit
set_option linter.unusedVariables false
set_option linter.unusedSimpArgs false
/-- The banks after one more object of bank q. -/
def boughtP (D : BSt) (q j : Nat) (v : Int) (pW : Nat → Nat → Int) : BSt := { D with pt := upd D.pt j true, pW := pW, us := addL D.us (chL D.pr q) 1, o2 := upd D.o2 j q, v2 := upd D.v2 j v }
theorem chL_in {nb n : Nat} {pr : Nat → Int} (hp : PrOk nb pr) (hn : nb ≤ n) (hb : nb ≤ 256) (q : Nat) (hq : q < nb) : (∀ z, z ∈ chL pr q → 0 ≤ z ∧ z < n) ∧ (chL pr q).length ≤ nb ∧ (chL pr q).Nodup := by
  have h := chL_bound hp hb (q + 1) q (by omega) (by omega)
  exact ⟨fun z hz => by have := h.2 z hz; omega, by omega, chL_nodup hp hb (q + 1) q (by omega) (by omega)⟩
set_option maxRecDepth 100000 in
set_option maxHeartbeats 2000000 in
theorem bbuyp_ok {w0 : World} {L : BLoc} {D : BSt} (q : Nat) (hq : q < D.nb) (x y j : Nat) (v : Int) (pW' : Nat → Nat → Int) (hj : j < L.b.n) (hfull : Hid ((chL D.pr q).any (fullB D.us D.lm) = false)) (hu : Hid (∀ i, i < L.n → -1000000 ≤ D.us i ∧ D.us i ≤ 1000000)) (w : World) (h : BW w0 w L D)
    (hcl : ∀ W, Below w.heap.size w W → Calls Tryd.prog 31 #[.pointer (some ⟨x, 0, none⟩), .pointer (some ⟨y, 0, none⟩)] W fun e w' => e = .returned (.tuple #[.int .i64 j, .int .i64 v, .nilIface]) ∧ BW w0 w' L { D with pt := upd D.pt j true, pW := pW' } ∧ PBelow W w' L.b.B L.b.G) :
    Calls Tryd.prog 26 #[.pointer (some ⟨L.P, 0, none⟩), .int .i64 (q : Int), .slice (some ⟨L.G2, 0, none⟩) 256 256, .nilIface, (Value.func (.func 31) #[] #[.pointer (some ⟨x, 0, none⟩), .pointer (some ⟨y, 0, none⟩)])] w fun e w' => e = .returned (.tuple #[.int .i64 j, .int .i64 v, .nilIface]) ∧ BW w0 w' L (boughtP D q j v pW') ∧ UpT L.T w w' := by
  have H := Lib.hid h
  have HCl := Lib.hid hcl
  have hn := h.n256
  have hpn := h.pn
  have hnn := h.nn
  have hin := chL_in h.pk h.nn (by omega) q hq
  obtain ⟨l, hl⟩ : ∃ l, Hid (chL D.pr q = l) := ⟨_, Lib.hid rfl⟩
  rw [hl.out] at hin hfull
  obtain ⟨m, hm⟩ : ∃ m, Hid (l.length = m) := ⟨_, Lib.hid rfl⟩
  have hm1 : m ≤ 1000 := by rw [← hm.out]; omega
  have HIn := Lib.hid hin.1
  have HNd := Lib.hid hin.2.2
  have HPk := Lib.hid h.pk
  have HLT := Lib.hid h.lowT
  have HTT := Lib.hid h.tt
  have HTw := Lib.hid h.tw
  have f0 := h.kk.f0
  have k0 : (0 : Int) ≤ j := by omega
  have k1 : (j : Int) < 256 := by omega
  clear h hcl hin
  go_enter Tryd.func26, Tryd.ntmps26
  go_wp2_with (first
    | (go_at_call 17; (with_reducible refine (athere_in q (by omega) true (Lib.hid (thN_at hq)) _ H.out.kk.ar).mono ?_); rintro e w1 ⟨rfl, rfl⟩)
    | (go_at_call 35; (with_reducible refine (bchain_is (q : Int) D.nb (by omega) (by omega) hnn (Lib.hid (fun i hi => thN_at hi)) HPk _ H.out.kk).mono ?_); rintro e w1 ⟨v9, rfl, hr, hb⟩; rw [hl.out] at hr; obtain ⟨a9, c9, hv9⟩ := own_slice hr m hm; have HRw := Lib.hid (rowT hr hv9 hm.out HTw.out); subst hv9; have H1 := Lib.hid (H.out.below hb); have HB1 := Lib.hid hb; clear hr hb f0)
    | (go_at_call 57; (with_reducible refine (bcf_is l m hm hm1 a9 c9 HIn false hfull _ H1.out.kk (fun i hi => by obtain ⟨g, h1, h2, h3, h4⟩ := HRw.out w1 (UpT.refl _ _) i hi; exact ⟨g, h1, h3, h4⟩)).mono ?_); rintro e w2 ⟨rfl, hb⟩; have HB2 := Lib.hid hb; clear hb)
    | (go_at_call 31; (with_reducible refine (HCl.out _ (HB1.out.trans (HB2.out.mono HB1.out.size))).mono ?_); rintro e w3 ⟨rfl, hW, hb⟩; have H3 := Lib.hid hW; have HU3 := Lib.hid ((UpT.below HB2.out).trans (UpT.pb hb (T := L.T) (by have := HLT.out; omega) (by have := HLT.out; omega))); have ht := hW.kk.t2.ti j (by omega); obtain ⟨c0, c1⟩ := ht; have z0 := hW.kk.t2.fr (j * 2); have z1 := hW.kk.t2.fr (j * 2 + 1); have HS := Lib.hid (hW.kk.t2.title j (by omega) q v); have H4 := Lib.hid (hW.kk.ti2 HS.out.1 HS.out.2); have HU4 := Lib.hid (HU3.out.trans (UpT.grown HS.out.2 (T := L.T) (by have := HTT.out; omega))); clear hW hb)
    | (go_at_call 45; (with_reducible refine (bcount_is l m hm hm1 a9 c9 HIn HNd 1 (by decide) hu _ H4.out (fun i hi => by obtain ⟨g, h1, h2, h3, h4⟩ := HRw.out _ HU4.out i hi; exact ⟨g, h1, h3, by have := HTT.out; omega, h4⟩)).mono ?_); rintro e w5 ⟨rfl, hB, hg⟩; have H5 := Lib.hid hB; have HG5 := Lib.hid hg; clear hB hg c0 c1 z0 z1))
  go_ret3
  refine ⟨rfl, ?_, ((UpT.below HB1.out).trans HU4.out).trans (UpT.grown HG5.out (by have := HTT.out; omega))⟩
  have hlo : Below L.bB w3 w5 := by
    refine (low_of HS.out.2 H3.out.kk.t2.lt.1 H3.out.bl).trans (low_of HG5.out H3.out.kk.ac.lt.1 ?_)
    exact Nat.le_trans H3.out.bl HS.out.2.size
  refine BW.bank H3.out (D' := boughtP D q j v pW') ?_ hlo rfl HPk.out hnn
  have := H5.out
  rw [← hl.out] at this
  exact this
set_option maxRecDepth 100000 in
set_option maxHeartbeats 2000000 in
theorem bbuyp_limit {w0 : World} {L : BLoc} {D : BSt} (q : Nat) (hq : q < D.nb) (x y : Nat) (hfull : Hid ((chL D.pr q).any (fullB D.us D.lm) = true)) (G : Nat) (fv : Value) (v : Value) (w : World) (h : BW w0 w L D) (hE : w.cell? ⟨3, 0, none⟩ = some v) (hlt : 3 < w.heap.size) :
    Calls Tryd.prog 26 #[.pointer (some ⟨L.P, 0, none⟩), .int .i64 (q : Int), .slice (some ⟨G, 0, none⟩) 256 256, .nilIface, fv] w fun e w' => e = .returned (.tuple #[.int .i64 0, .int .i64 0, v]) ∧ Below w.heap.size w w' := by
  have H := Lib.hid h
  have hn := h.n256
  have hnn := h.nn
  have hin := chL_in h.pk h.nn (by omega) q hq
  obtain ⟨l, hl⟩ : ∃ l, Hid (chL D.pr q = l) := ⟨_, Lib.hid rfl⟩
  rw [hl.out] at hin hfull
  obtain ⟨m, hm⟩ : ∃ m, Hid (l.length = m) := ⟨_, Lib.hid rfl⟩
  have hm1 : m ≤ 1000 := by rw [← hm.out]; omega
  have HIn := Lib.hid hin.1
  have HPk := Lib.hid h.pk
  have HTw := Lib.hid h.tw
  have f0 := h.kk.f0
  clear h hin
  go_enter Tryd.func26, Tryd.ntmps26
  go_wp2_with (first
    | (go_at_call 17; (with_reducible refine (athere_in q (by omega) true (Lib.hid (thN_at hq)) _ H.out.kk.ar).mono ?_); rintro e w1 ⟨rfl, rfl⟩)
    | (go_at_call 35; (with_reducible refine (bchain_is (q : Int) D.nb (by omega) (by omega) hnn (Lib.hid (fun i hi => thN_at hi)) HPk _ H.out.kk).mono ?_); rintro e w1 ⟨v9, rfl, hr, hb⟩; rw [hl.out] at hr; obtain ⟨a9, c9, hv9⟩ := own_slice hr m hm; have HRw := Lib.hid (rowT hr hv9 hm.out HTw.out); subst hv9; have H1 := Lib.hid (H.out.below hb); have HB1 := Lib.hid hb; clear hr hb f0)
    | (go_at_call 57; (with_reducible refine (bcf_is l m hm hm1 a9 c9 HIn true hfull _ H1.out.kk (fun i hi => by obtain ⟨g, h1, h2, h3, h4⟩ := HRw.out w1 (UpT.refl _ _) i hi; exact ⟨g, h1, h3, h4⟩)).mono ?_); rintro e w2 ⟨rfl, hb⟩; have HB2 := Lib.hid (HB1.out.trans (hb.mono HB1.out.size)); have hE2 := (HB2.out.cell (p := ⟨3, 0, none⟩) hlt).trans hE; clear hb))
  go_quiet (fail)
  go_wp2_with fail
  go_ret3
  exact ⟨rfl, below_drewN HB2.out _⟩
end Go.Proofs.YtagiabcmbihoaaaDoor
namespace Go.Proofs.YtagiabcmbihoaaaDoor
open Go.ChangeShapes Go.WideShapes Go.ChangeAt Go.RowKit
set_option linter.unusedVariables false
set_option linter.unusedSimpArgs false
/-- Words that are handed in lie apart. -/
def SrcW (L : BLoc) (w : World) (a : Option Addr) (xs : List Int) : Prop := ∀ W, Below w.heap.size w W → ∀ B G, (B < L.T ∨ w.heap.size ≤ B) → (G < L.T ∨ w.heap.size ≤ G) → SrcU W a xs B G
theorem SrcW.run {L : BLoc} {w : World} {a : Option Addr} {xs : List Int} (h : SrcW L w a xs) (W : World) (hb : Below w.heap.size w W) (B G : Nat) (hB : B < L.T ∨ w.heap.size ≤ B) (hG : G < L.T ∨ w.heap.size ≤ G) : SrcU W a xs B G := h W hb B G hB hG
theorem srcw_none (L : BLoc) (w : World) : SrcW L w none [] := fun _ _ _ _ _ _ => ⟨fun j hj => by simp at hj⟩
set_option maxRecDepth 100000 in
set_option maxHeartbeats 2000000 in
theorem bpage_ok {w0 : World} {L : BLoc} {D : BSt} (q : Nat) (hq : q < D.nb) (a : Option Addr) (m c2 : Nat) (xs : List Int) (hm : Hid (xs.length = m)) (hx0 : m ≤ 32) (j : Nat) (hj : j < L.b.n) (hyes : Hid (freeB D.pt D.pv j = true)) (hno : Hid (∀ i, i < j → freeB D.pt D.pv i = false)) (v : Int) (hv : Hid (D.pv j = v)) (hfull : Hid ((chL D.pr q).any (fullB D.us D.lm) = false)) (hu : Hid (∀ i, i < L.n → -1000000 ≤ D.us i ∧ D.us i ≤ 1000000)) (w : World) (h : BW w0 w L D) (hs : SrcW L w a xs) :
    Calls Tryd.prog 10 #[.pointer (some ⟨L.P, 0, none⟩), .int .i64 (q : Int), .slice a m c2] w fun e w' => e = .returned (.tuple #[.int .i64 j, .int .i64 v, .nilIface]) ∧ BW w0 w' L (boughtP D q j v (fresh D.pW j xs)) ∧ UpT L.T w w' := by
  have H := Lib.hid h
  have HS := Lib.hid hs
  have HLT := Lib.hid h.lowT
  have HTw := Lib.hid h.tw
  clear h hs
  go_enter Tryd.func10, Tryd.ntmps10
  go_upto_region 1 with fail
  generalize hw2 : World.alloc (World.alloc w _) _ = w2
  have HB2 : Hid (Below w.heap.size w w2) := Lib.hid (by rw [← hw2]; exact ((Below.refl _ _).alloc (Nat.le_refl _) _).alloc (by simp) _)
  have HX : Hid (∀ W, UpT w.heap.size w2 W → World.cell? W ⟨w.heap.size, 0, none⟩ = some (.pointer (some ⟨L.P, 0, none⟩)) ∧ World.cell? W ⟨w.heap.size + 1, 0, none⟩ = some (.slice a m c2)) := Lib.hid (fun W hu => by
    have e1 : w2.cell? ⟨w.heap.size, 0, none⟩ = some (.pointer (some ⟨L.P, 0, none⟩)) := by rw [← hw2]; simp
    have e2 : w2.cell? ⟨w.heap.size + 1, 0, none⟩ = some (.slice a m c2) := by rw [← hw2]; simp
    have sz : w2.heap.size = w.heap.size + 1 + 1 := by rw [← hw2]; simp
    exact ⟨(World.cell?_of_block (a := ⟨w.heap.size, 0, none⟩) (hu.2 w.heap.size (by omega) (by omega))).trans e1, (World.cell?_of_block (a := ⟨w.heap.size + 1, 0, none⟩) (hu.2 (w.heap.size + 1) (by omega) (by omega))).trans e2⟩)
  have HSz : Hid (w2.heap.size = w.heap.size + 1 + 1) := Lib.hid (by rw [← hw2]; simp)
  clear hw2
  obtain ⟨wD, hwD⟩ : ∃ wD, wD = w2.drew := ⟨_, rfl⟩
  have HBD : Hid (Below w2.heap.size w2 wD) := Lib.hid (by rw [hwD]; exact (Below.refl _ _).drew)
  have HS7 : Hid (∀ W D', BW w0 W L D' → UpT w.heap.size w2 W → (World.cell? W ⟨w.heap.size, 0, none⟩ = some (.pointer (some ⟨L.P, 0, none⟩)) ∧ World.cell? W ⟨L.P, 5, none⟩ = some (.slice (some ⟨L.G2, 0, none⟩) 256 256) ∧ World.cell? W ⟨w.heap.size + 1, 0, none⟩ = some (.slice a m c2))) := Lib.hid (fun W D' hW hu => ⟨(HX.out W hu).1, hW.kk.f5, (HX.out W hu).2⟩)
  have HWD := Lib.hid ((H.out.below HB2.out).below HBD.out)
  have hS0 := HS7.out _ _ HWD.out (UpT.below HBD.out)
  refine wp_region_noPanic ?_
  refine wp_region_held_drew (S := fun w' => (World.cell? w' ⟨w.heap.size, 0, none⟩ = some (.pointer (some ⟨L.P, 0, none⟩)) ∧ World.cell? w' ⟨L.P, 5, none⟩ = some (.slice (some ⟨L.G2, 0, none⟩) 256 256) ∧ World.cell? w' ⟨w.heap.size + 1, 0, none⟩ = some (.slice a m c2))) (by kernel_rfl) (by rw [← hwD]; exact hS0) (fun hHeld => ?_)
  rw [← hwD] at hHeld ⊢
  clear hwD hS0
  refine wpAnyH_take (i := 0) (v := ?_) (by rfl) (by kernel_rfl) (by kernel_rfl) (by kernel_rfl) (fun _ _ _ h => h) (Or.inl ⟨by kernel_rfl, ?_⟩) (by assumption) ?_; rotate_left 1; (focus (intro w hSw; (try dsimp only at hSw); simp only [List.getElem_toArray, List.getElem_cons_succ, List.getElem_cons_zero]; all_goals go_simp; all_goals (try with_reducible rfl))); (try simp only [Act.put, List.getElem_toArray, List.getElem_cons_succ, List.getElem_cons_zero, List.setIfInBounds_toArray, List.set_cons_zero, List.set_cons_succ])
  refine wpAnyH_take (i := 1) (v := ?_) (by rfl) (by kernel_rfl) (by kernel_rfl) (by kernel_rfl) (fun _ _ _ h => h) (Or.inl ⟨by kernel_rfl, ?_⟩) (by assumption) ?_; rotate_left 1; (focus (intro w hSw; (try dsimp only at hSw); simp only [List.getElem_toArray, List.getElem_cons_succ, List.getElem_cons_zero]; all_goals go_simp; all_goals (try with_reducible rfl))); (try simp only [Act.put, List.getElem_toArray, List.getElem_cons_succ, List.getElem_cons_zero, List.setIfInBounds_toArray, List.set_cons_zero, List.set_cons_succ])
  refine wpAnyH_take (i := 2) (v := ?_) (by rfl) (by kernel_rfl) (by kernel_rfl) (by kernel_rfl) (fun _ _ _ h => h) (Or.inl ⟨by kernel_rfl, ?_⟩) (by assumption) ?_; rotate_left 1; (focus (intro w hSw; (try dsimp only at hSw); simp only [List.getElem_toArray, List.getElem_cons_succ, List.getElem_cons_zero]; all_goals go_simp; all_goals (try with_reducible rfl))); (try simp only [Act.put, List.getElem_toArray, List.getElem_cons_succ, List.getElem_cons_zero, List.setIfInBounds_toArray, List.set_cons_zero, List.set_cons_succ])
  refine wpAnyH_take (i := 3) (v := ?_) (by rfl) (by kernel_rfl) (by kernel_rfl) (by kernel_rfl) (fun _ _ _ h => h) (Or.inl ⟨by kernel_rfl, ?_⟩) (by assumption) ?_; rotate_left 1; (focus (intro w hSw; (try dsimp only at hSw); simp only [List.getElem_toArray, List.getElem_cons_succ, List.getElem_cons_zero]; all_goals go_simp; all_goals (try with_reducible rfl))); (try simp only [Act.put, List.getElem_toArray, List.getElem_cons_succ, List.getElem_cons_zero, List.setIfInBounds_toArray, List.set_cons_zero, List.set_cons_succ])
  refine wpAnyH_take (i := 4) (v := ?_) (by rfl) (by kernel_rfl) (by kernel_rfl) (by kernel_rfl) (fun _ _ _ h => h) (Or.inl ⟨by kernel_rfl, ?_⟩) (by assumption) ?_; rotate_left 1; (focus (intro w hSw; (try dsimp only at hSw); simp only [List.getElem_toArray, List.getElem_cons_succ, List.getElem_cons_zero]; all_goals go_simp; all_goals (try with_reducible rfl))); (try simp only [Act.put, List.getElem_toArray, List.getElem_cons_succ, List.getElem_cons_zero, List.setIfInBounds_toArray, List.set_cons_zero, List.set_cons_succ])
  refine wpAnyH_take (i := 5) (v := ?_) (by rfl) (by kernel_rfl) (by kernel_rfl) (by kernel_rfl) (fun _ _ _ h => h) (Or.inl ⟨by kernel_rfl, ?_⟩) (by assumption) ?_; rotate_left 1; (focus (intro w hSw; (try dsimp only at hSw); simp only [List.getElem_toArray, List.getElem_cons_succ, List.getElem_cons_zero]; all_goals go_simp; all_goals (try with_reducible rfl))); (try simp only [Act.put, List.getElem_toArray, List.getElem_cons_succ, List.getElem_cons_zero, List.setIfInBounds_toArray, List.set_cons_zero, List.set_cons_succ])
  refine wpAnyH_take (i := 6) (v := ?_) (by rfl) (by kernel_rfl) (by kernel_rfl) (by kernel_rfl) (fun _ _ _ h => h) (Or.inl ⟨by kernel_rfl, ?_⟩) (by assumption) ?_; rotate_left 1; (focus (intro w hSw; (try dsimp only at hSw); simp only [List.getElem_toArray, List.getElem_cons_succ, List.getElem_cons_zero]; all_goals go_simp; all_goals (try with_reducible rfl))); (try simp only [Act.put, List.getElem_toArray, List.getElem_cons_succ, List.getElem_cons_zero, List.setIfInBounds_toArray, List.set_cons_zero, List.set_cons_succ])
  refine wpAnyH_take (i := 8) (v := ?_) (by rfl) (by kernel_rfl) (by kernel_rfl) (by kernel_rfl) (fun _ _ _ h => h) (Or.inl ⟨by kernel_rfl, ?_⟩) (by assumption) ?_; rotate_left 1; (focus (intro w hSw; (try dsimp only at hSw); simp only [List.getElem_toArray, List.getElem_cons_succ, List.getElem_cons_zero]; all_goals go_simp; all_goals (try with_reducible rfl))); (try simp only [Act.put, List.getElem_toArray, List.getElem_cons_succ, List.getElem_cons_zero, List.setIfInBounds_toArray, List.set_cons_zero, List.set_cons_succ])
  refine wpAnyH_ready (rs := [7]) (by kernel_rfl) (by simp) ?_; refine AllReadyH.cons (by rfl) (fun K hK => ?_) AllReadyH.nil; rw [if_pos (by kernel_rfl)]; simp only [List.getElem_toArray, List.getElem_cons_succ, List.getElem_cons_zero]
  go_wp2_with (first
    | (go_at_call 30; (with_reducible refine (bpageof_ok a m c2 xs hm hx0 _ (fun B G hB hG => HS.out.run _ (HB2.out.trans (HBD.out.mono HB2.out.size)) B G (.inr (Nat.le_trans (Nat.le_trans HB2.out.size HBD.out.size) hB)) (.inr (Nat.le_trans (Nat.le_trans HB2.out.size HBD.out.size) hG)))).mono ?_); rintro e w3 ⟨rfl, hb⟩; have HB3 := Lib.hid (HBD.out.trans (hb.mono HBD.out.size)); have HW3 := Lib.hid (HWD.out.below hb); clear hb))
  refine hK.out _ _ (HS7.out _ _ HW3.out (UpT.below HB3.out)) (fun hHeld => ?_)
  clear hK K
  (try simp only [Act.put, List.getElem_toArray, List.getElem_cons_succ, List.getElem_cons_zero, List.setIfInBounds_toArray, List.set_cons_zero, List.set_cons_succ])
  refine wpAnyH_ready (rs := [9]) (by kernel_rfl) (by simp) ?_; refine AllReadyH.cons (by rfl) (fun K hK => ?_) AllReadyH.nil; rw [if_pos (by kernel_rfl)]; simp only [List.getElem_toArray, List.getElem_cons_succ, List.getElem_cons_zero]
  have HCl : Hid (∀ W, Below w3.heap.size w3 W → Calls Tryd.prog 31 #[.pointer (some ⟨w.heap.size, 0, none⟩), .pointer (some ⟨w.heap.size + 1, 0, none⟩)] W fun e w' => e = .returned (.tuple #[.int .i64 j, .int .i64 v, .nilIface]) ∧ BW w0 w' L { D with pt := upd D.pt j true, pW := fresh D.pW j xs } ∧ PBelow W w' L.b.B L.b.G) := Lib.hid (fun W hb => by
    have hbw : Below w2.heap.size w2 W := HB3.out.trans (hb.mono HB3.out.size)
    have hx := HX.out W (UpT.below hbw)
    have h1 := hbw.size
    have h2 := HSz.out
    have h3 := HTw.out
    have h4 := HLT.out
    exact bpgcl_ok w.heap.size (w.heap.size + 1) a m c2 xs hm hx0 j hj hyes hno v hv W (HW3.out.below hb) (by omega) hx.1 hx.2 (HS.out.run W (HB2.out.trans (hbw.mono HB2.out.size)) _ _ (.inl (by omega)) (.inl (by omega))))
  go_wp2_with (first
    | (go_at_call 26; (with_reducible refine (bbuyp_ok q hq w.heap.size (w.heap.size + 1) j v _ hj hfull hu _ HW3.out HCl.out).mono ?_); rintro e w4 ⟨rfl, hW, hu4⟩; have HW4 := Lib.hid hW; have HU4 := Lib.hid hu4; clear hW hu4))
  refine hK.out _ _ (HS7.out _ _ HW4.out ((UpT.below HB3.out).trans ⟨HU4.out.1, fun k h1 h2 => HU4.out.2 k (Nat.le_trans HTw.out h1) h2⟩)) (fun hHeld => ?_)
  clear hK K
  (try simp only [Act.put, List.getElem_toArray, List.getElem_cons_succ, List.getElem_cons_zero, List.setIfInBounds_toArray, List.set_cons_zero, List.set_cons_succ])
  refine wpAnyH_take (i := 10) (v := ?_) (by rfl) (by kernel_rfl) (by kernel_rfl) (by kernel_rfl) (fun _ _ _ h => h) (Or.inl ⟨by kernel_rfl, ?_⟩) (by assumption) ?_; rotate_left 1; (focus (intro w hSw; (try dsimp only at hSw); simp only [List.getElem_toArray, List.getElem_cons_succ, List.getElem_cons_zero]; all_goals go_simp; all_goals (try with_reducible rfl))); (try simp only [Act.put, List.getElem_toArray, List.getElem_cons_succ, List.getElem_cons_zero, List.setIfInBounds_toArray, List.set_cons_zero, List.set_cons_succ])
  refine wpAnyH_take (i := 11) (v := ?_) (by rfl) (by kernel_rfl) (by kernel_rfl) (by kernel_rfl) (fun _ _ _ h => h) (Or.inl ⟨by kernel_rfl, ?_⟩) (by assumption) ?_; rotate_left 1; (focus (intro w hSw; (try dsimp only at hSw); simp only [List.getElem_toArray, List.getElem_cons_succ, List.getElem_cons_zero]; all_goals go_simp; all_goals (try with_reducible rfl))); (try simp only [Act.put, List.getElem_toArray, List.getElem_cons_succ, List.getElem_cons_zero, List.setIfInBounds_toArray, List.set_cons_zero, List.set_cons_succ])
  refine wpAnyH_take (i := 12) (v := ?_) (by rfl) (by kernel_rfl) (by kernel_rfl) (by kernel_rfl) (fun _ _ _ h => h) (Or.inl ⟨by kernel_rfl, ?_⟩) (by assumption) ?_; rotate_left 1; (focus (intro w hSw; (try dsimp only at hSw); simp only [List.getElem_toArray, List.getElem_cons_succ, List.getElem_cons_zero]; all_goals go_simp; all_goals (try with_reducible rfl))); (try simp only [Act.put, List.getElem_toArray, List.getElem_cons_succ, List.getElem_cons_zero, List.setIfInBounds_toArray, List.set_cons_zero, List.set_cons_succ])
  refine wpAnyH_take (i := 13) (v := ?_) (by rfl) (by kernel_rfl) (by kernel_rfl) (by kernel_rfl) (fun _ _ _ h => h) (Or.inl ⟨by kernel_rfl, ?_⟩) (by assumption) ?_; rotate_left 1; (focus (intro w hSw; (try dsimp only at hSw); simp only [List.getElem_toArray, List.getElem_cons_succ, List.getElem_cons_zero]; all_goals go_simp; all_goals (try with_reducible rfl))); (try simp only [Act.put, List.getElem_toArray, List.getElem_cons_succ, List.getElem_cons_zero, List.setIfInBounds_toArray, List.set_cons_zero, List.set_cons_succ])
  refine wpAnyH_take (i := 14) (v := ?_) (by rfl) (by kernel_rfl) (by kernel_rfl) (by kernel_rfl) (fun _ _ _ h => h) (Or.inl ⟨by kernel_rfl, ?_⟩) (by assumption) ?_; rotate_left 1; (focus (intro w hSw; (try dsimp only at hSw); simp only [List.getElem_toArray, List.getElem_cons_succ, List.getElem_cons_zero]; all_goals go_simp; all_goals (try with_reducible rfl))); (try simp only [Act.put, List.getElem_toArray, List.getElem_cons_succ, List.getElem_cons_zero, List.setIfInBounds_toArray, List.set_cons_zero, List.set_cons_succ])
  refine wpAnyH_take (i := 15) (v := ?_) (by rfl) (by kernel_rfl) (by kernel_rfl) (by kernel_rfl) (fun _ _ _ h => h) (Or.inl ⟨by kernel_rfl, ?_⟩) (by assumption) ?_; rotate_left 1; (focus (intro w hSw; (try dsimp only at hSw); simp only [List.getElem_toArray, List.getElem_cons_succ, List.getElem_cons_zero]; all_goals go_simp; all_goals (try with_reducible rfl))); (try simp only [Act.put, List.getElem_toArray, List.getElem_cons_succ, List.getElem_cons_zero, List.setIfInBounds_toArray, List.set_cons_zero, List.set_cons_succ])
  refine wpAnyH_done (by kernel_rfl) ?_ _
  refine NoPanic.normal ?_
  go_wp2_with fail
  go_ret3
  exact ⟨rfl, HW4.out, ((UpT.below HB2.out).trans (UpT.below HB3.out)).trans HU4.out⟩
set_option maxRecDepth 100000 in
set_option maxHeartbeats 2000000 in
theorem bpage_limit {w0 : World} {L : BLoc} {D : BSt} (q : Nat) (hq : q < D.nb) (a : Option Addr) (m c2 : Nat) (xs : List Int) (hm : Hid (xs.length = m)) (hx0 : m ≤ 32) (hfull : Hid ((chL D.pr q).any (fullB D.us D.lm) = true)) (v : Value) (w : World) (h : BW w0 w L D) (hs : SrcW L w a xs) (hE : w.cell? ⟨3, 0, none⟩ = some v) (hlt : 3 < w.heap.size) :
    Calls Tryd.prog 10 #[.pointer (some ⟨L.P, 0, none⟩), .int .i64 (q : Int), .slice a m c2] w fun e w' => e = .returned (.tuple #[.int .i64 0, .int .i64 0, v]) ∧ Below w.heap.size w w' := by
  have H := Lib.hid h
  have HS := Lib.hid hs
  have HLT := Lib.hid h.lowT
  have HTw := Lib.hid h.tw
  clear h hs
  go_enter Tryd.func10, Tryd.ntmps10
  go_upto_region 1 with fail
  generalize hw2 : World.alloc (World.alloc w _) _ = w2
  have HB2 : Hid (Below w.heap.size w w2) := Lib.hid (by rw [← hw2]; exact ((Below.refl _ _).alloc (Nat.le_refl _) _).alloc (by simp) _)
  have HX : Hid (∀ W, UpT w.heap.size w2 W → World.cell? W ⟨w.heap.size, 0, none⟩ = some (.pointer (some ⟨L.P, 0, none⟩)) ∧ World.cell? W ⟨w.heap.size + 1, 0, none⟩ = some (.slice a m c2)) := Lib.hid (fun W hu => by
    have e1 : w2.cell? ⟨w.heap.size, 0, none⟩ = some (.pointer (some ⟨L.P, 0, none⟩)) := by rw [← hw2]; simp
    have e2 : w2.cell? ⟨w.heap.size + 1, 0, none⟩ = some (.slice a m c2) := by rw [← hw2]; simp
    have sz : w2.heap.size = w.heap.size + 1 + 1 := by rw [← hw2]; simp
    exact ⟨(World.cell?_of_block (a := ⟨w.heap.size, 0, none⟩) (hu.2 w.heap.size (by omega) (by omega))).trans e1, (World.cell?_of_block (a := ⟨w.heap.size + 1, 0, none⟩) (hu.2 (w.heap.size + 1) (by omega) (by omega))).trans e2⟩)
  have HSz : Hid (w2.heap.size = w.heap.size + 1 + 1) := Lib.hid (by rw [← hw2]; simp)
  clear hw2
  obtain ⟨wD, hwD⟩ : ∃ wD, wD = w2.drew := ⟨_, rfl⟩
  have HBD : Hid (Below w2.heap.size w2 wD) := Lib.hid (by rw [hwD]; exact (Below.refl _ _).drew)
  have HS7 : Hid (∀ W D', BW w0 W L D' → UpT w.heap.size w2 W → (World.cell? W ⟨w.heap.size, 0, none⟩ = some (.pointer (some ⟨L.P, 0, none⟩)) ∧ World.cell? W ⟨L.P, 5, none⟩ = some (.slice (some ⟨L.G2, 0, none⟩) 256 256) ∧ World.cell? W ⟨w.heap.size + 1, 0, none⟩ = some (.slice a m c2))) := Lib.hid (fun W D' hW hu => ⟨(HX.out W hu).1, hW.kk.f5, (HX.out W hu).2⟩)
  have HWD := Lib.hid ((H.out.below HB2.out).below HBD.out)
  have hS0 := HS7.out _ _ HWD.out (UpT.below HBD.out)
  refine wp_region_noPanic ?_
  refine wp_region_held_drew (S := fun w' => (World.cell? w' ⟨w.heap.size, 0, none⟩ = some (.pointer (some ⟨L.P, 0, none⟩)) ∧ World.cell? w' ⟨L.P, 5, none⟩ = some (.slice (some ⟨L.G2, 0, none⟩) 256 256) ∧ World.cell? w' ⟨w.heap.size + 1, 0, none⟩ = some (.slice a m c2))) (by kernel_rfl) (by rw [← hwD]; exact hS0) (fun hHeld => ?_)
  rw [← hwD] at hHeld ⊢
  clear hwD hS0
  refine wpAnyH_take (i := 0) (v := ?_) (by rfl) (by kernel_rfl) (by kernel_rfl) (by kernel_rfl) (fun _ _ _ h => h) (Or.inl ⟨by kernel_rfl, ?_⟩) (by assumption) ?_; rotate_left 1; (focus (intro w hSw; (try dsimp only at hSw); simp only [List.getElem_toArray, List.getElem_cons_succ, List.getElem_cons_zero]; all_goals go_simp; all_goals (try with_reducible rfl))); (try simp only [Act.put, List.getElem_toArray, List.getElem_cons_succ, List.getElem_cons_zero, List.setIfInBounds_toArray, List.set_cons_zero, List.set_cons_succ])
  refine wpAnyH_take (i := 1) (v := ?_) (by rfl) (by kernel_rfl) (by kernel_rfl) (by kernel_rfl) (fun _ _ _ h => h) (Or.inl ⟨by kernel_rfl, ?_⟩) (by assumption) ?_; rotate_left 1; (focus (intro w hSw; (try dsimp only at hSw); simp only [List.getElem_toArray, List.getElem_cons_succ, List.getElem_cons_zero]; all_goals go_simp; all_goals (try with_reducible rfl))); (try simp only [Act.put, List.getElem_toArray, List.getElem_cons_succ, List.getElem_cons_zero, List.setIfInBounds_toArray, List.set_cons_zero, List.set_cons_succ])
  refine wpAnyH_take (i := 2) (v := ?_) (by rfl) (by kernel_rfl) (by kernel_rfl) (by kernel_rfl) (fun _ _ _ h => h) (Or.inl ⟨by kernel_rfl, ?_⟩) (by assumption) ?_; rotate_left 1; (focus (intro w hSw; (try dsimp only at hSw); simp only [List.getElem_toArray, List.getElem_cons_succ, List.getElem_cons_zero]; all_goals go_simp; all_goals (try with_reducible rfl))); (try simp only [Act.put, List.getElem_toArray, List.getElem_cons_succ, List.getElem_cons_zero, List.setIfInBounds_toArray, List.set_cons_zero, List.set_cons_succ])
  refine wpAnyH_take (i := 3) (v := ?_) (by rfl) (by kernel_rfl) (by kernel_rfl) (by kernel_rfl) (fun _ _ _ h => h) (Or.inl ⟨by kernel_rfl, ?_⟩) (by assumption) ?_; rotate_left 1; (focus (intro w hSw; (try dsimp only at hSw); simp only [List.getElem_toArray, List.getElem_cons_succ, List.getElem_cons_zero]; all_goals go_simp; all_goals (try with_reducible rfl))); (try simp only [Act.put, List.getElem_toArray, List.getElem_cons_succ, List.getElem_cons_zero, List.setIfInBounds_toArray, List.set_cons_zero, List.set_cons_succ])
  refine wpAnyH_take (i := 4) (v := ?_) (by rfl) (by kernel_rfl) (by kernel_rfl) (by kernel_rfl) (fun _ _ _ h => h) (Or.inl ⟨by kernel_rfl, ?_⟩) (by assumption) ?_; rotate_left 1; (focus (intro w hSw; (try dsimp only at hSw); simp only [List.getElem_toArray, List.getElem_cons_succ, List.getElem_cons_zero]; all_goals go_simp; all_goals (try with_reducible rfl))); (try simp only [Act.put, List.getElem_toArray, List.getElem_cons_succ, List.getElem_cons_zero, List.setIfInBounds_toArray, List.set_cons_zero, List.set_cons_succ])
  refine wpAnyH_take (i := 5) (v := ?_) (by rfl) (by kernel_rfl) (by kernel_rfl) (by kernel_rfl) (fun _ _ _ h => h) (Or.inl ⟨by kernel_rfl, ?_⟩) (by assumption) ?_; rotate_left 1; (focus (intro w hSw; (try dsimp only at hSw); simp only [List.getElem_toArray, List.getElem_cons_succ, List.getElem_cons_zero]; all_goals go_simp; all_goals (try with_reducible rfl))); (try simp only [Act.put, List.getElem_toArray, List.getElem_cons_succ, List.getElem_cons_zero, List.setIfInBounds_toArray, List.set_cons_zero, List.set_cons_succ])
  refine wpAnyH_take (i := 6) (v := ?_) (by rfl) (by kernel_rfl) (by kernel_rfl) (by kernel_rfl) (fun _ _ _ h => h) (Or.inl ⟨by kernel_rfl, ?_⟩) (by assumption) ?_; rotate_left 1; (focus (intro w hSw; (try dsimp only at hSw); simp only [List.getElem_toArray, List.getElem_cons_succ, List.getElem_cons_zero]; all_goals go_simp; all_goals (try with_reducible rfl))); (try simp only [Act.put, List.getElem_toArray, List.getElem_cons_succ, List.getElem_cons_zero, List.setIfInBounds_toArray, List.set_cons_zero, List.set_cons_succ])
  refine wpAnyH_take (i := 8) (v := ?_) (by rfl) (by kernel_rfl) (by kernel_rfl) (by kernel_rfl) (fun _ _ _ h => h) (Or.inl ⟨by kernel_rfl, ?_⟩) (by assumption) ?_; rotate_left 1; (focus (intro w hSw; (try dsimp only at hSw); simp only [List.getElem_toArray, List.getElem_cons_succ, List.getElem_cons_zero]; all_goals go_simp; all_goals (try with_reducible rfl))); (try simp only [Act.put, List.getElem_toArray, List.getElem_cons_succ, List.getElem_cons_zero, List.setIfInBounds_toArray, List.set_cons_zero, List.set_cons_succ])
  refine wpAnyH_ready (rs := [7]) (by kernel_rfl) (by simp) ?_; refine AllReadyH.cons (by rfl) (fun K hK => ?_) AllReadyH.nil; rw [if_pos (by kernel_rfl)]; simp only [List.getElem_toArray, List.getElem_cons_succ, List.getElem_cons_zero]
  go_wp2_with (first
    | (go_at_call 30; (with_reducible refine (bpageof_ok a m c2 xs hm hx0 _ (fun B G hB hG => HS.out.run _ (HB2.out.trans (HBD.out.mono HB2.out.size)) B G (.inr (Nat.le_trans (Nat.le_trans HB2.out.size HBD.out.size) hB)) (.inr (Nat.le_trans (Nat.le_trans HB2.out.size HBD.out.size) hG)))).mono ?_); rintro e w3 ⟨rfl, hb⟩; have HB3 := Lib.hid (HBD.out.trans (hb.mono HBD.out.size)); have HW3 := Lib.hid (HWD.out.below hb); clear hb))
  refine hK.out _ _ (HS7.out _ _ HW3.out (UpT.below HB3.out)) (fun hHeld => ?_)
  clear hK K
  (try simp only [Act.put, List.getElem_toArray, List.getElem_cons_succ, List.getElem_cons_zero, List.setIfInBounds_toArray, List.set_cons_zero, List.set_cons_succ])
  refine wpAnyH_ready (rs := [9]) (by kernel_rfl) (by simp) ?_; refine AllReadyH.cons (by rfl) (fun K hK => ?_) AllReadyH.nil; rw [if_pos (by kernel_rfl)]; simp only [List.getElem_toArray, List.getElem_cons_succ, List.getElem_cons_zero]
  have hE3 := (((HB2.out.trans (HB3.out.mono HB2.out.size))).cell (p := ⟨3, 0, none⟩) hlt).trans hE
  have hlt3 := Nat.lt_of_lt_of_le hlt (HB2.out.trans (HB3.out.mono HB2.out.size)).size
  go_wp2_with (first
    | (go_at_call 26; (with_reducible refine (bbuyp_limit q hq w.heap.size (w.heap.size + 1) hfull L.G2 _ v _ HW3.out hE3 hlt3).mono ?_); rintro e w4 ⟨rfl, hb4⟩; have HW4 := Lib.hid (HW3.out.below hb4); have HB4 := Lib.hid (HB3.out.trans (hb4.mono HB3.out.size)); clear hb4))
  refine hK.out _ _ (HS7.out _ _ HW4.out (UpT.below HB4.out)) (fun hHeld => ?_)
  clear hK K
  (try simp only [Act.put, List.getElem_toArray, List.getElem_cons_succ, List.getElem_cons_zero, List.setIfInBounds_toArray, List.set_cons_zero, List.set_cons_succ])
  refine wpAnyH_take (i := 10) (v := ?_) (by rfl) (by kernel_rfl) (by kernel_rfl) (by kernel_rfl) (fun _ _ _ h => h) (Or.inl ⟨by kernel_rfl, ?_⟩) (by assumption) ?_; rotate_left 1; (focus (intro w hSw; (try dsimp only at hSw); simp only [List.getElem_toArray, List.getElem_cons_succ, List.getElem_cons_zero]; all_goals go_simp; all_goals (try with_reducible rfl))); (try simp only [Act.put, List.getElem_toArray, List.getElem_cons_succ, List.getElem_cons_zero, List.setIfInBounds_toArray, List.set_cons_zero, List.set_cons_succ])
  refine wpAnyH_take (i := 11) (v := ?_) (by rfl) (by kernel_rfl) (by kernel_rfl) (by kernel_rfl) (fun _ _ _ h => h) (Or.inl ⟨by kernel_rfl, ?_⟩) (by assumption) ?_; rotate_left 1; (focus (intro w hSw; (try dsimp only at hSw); simp only [List.getElem_toArray, List.getElem_cons_succ, List.getElem_cons_zero]; all_goals go_simp; all_goals (try with_reducible rfl))); (try simp only [Act.put, List.getElem_toArray, List.getElem_cons_succ, List.getElem_cons_zero, List.setIfInBounds_toArray, List.set_cons_zero, List.set_cons_succ])
  refine wpAnyH_take (i := 12) (v := ?_) (by rfl) (by kernel_rfl) (by kernel_rfl) (by kernel_rfl) (fun _ _ _ h => h) (Or.inl ⟨by kernel_rfl, ?_⟩) (by assumption) ?_; rotate_left 1; (focus (intro w hSw; (try dsimp only at hSw); simp only [List.getElem_toArray, List.getElem_cons_succ, List.getElem_cons_zero]; all_goals go_simp; all_goals (try with_reducible rfl))); (try simp only [Act.put, List.getElem_toArray, List.getElem_cons_succ, List.getElem_cons_zero, List.setIfInBounds_toArray, List.set_cons_zero, List.set_cons_succ])
  refine wpAnyH_take (i := 13) (v := ?_) (by rfl) (by kernel_rfl) (by kernel_rfl) (by kernel_rfl) (fun _ _ _ h => h) (Or.inl ⟨by kernel_rfl, ?_⟩) (by assumption) ?_; rotate_left 1; (focus (intro w hSw; (try dsimp only at hSw); simp only [List.getElem_toArray, List.getElem_cons_succ, List.getElem_cons_zero]; all_goals go_simp; all_goals (try with_reducible rfl))); (try simp only [Act.put, List.getElem_toArray, List.getElem_cons_succ, List.getElem_cons_zero, List.setIfInBounds_toArray, List.set_cons_zero, List.set_cons_succ])
  refine wpAnyH_take (i := 14) (v := ?_) (by rfl) (by kernel_rfl) (by kernel_rfl) (by kernel_rfl) (fun _ _ _ h => h) (Or.inl ⟨by kernel_rfl, ?_⟩) (by assumption) ?_; rotate_left 1; (focus (intro w hSw; (try dsimp only at hSw); simp only [List.getElem_toArray, List.getElem_cons_succ, List.getElem_cons_zero]; all_goals go_simp; all_goals (try with_reducible rfl))); (try simp only [Act.put, List.getElem_toArray, List.getElem_cons_succ, List.getElem_cons_zero, List.setIfInBounds_toArray, List.set_cons_zero, List.set_cons_succ])
  refine wpAnyH_take (i := 15) (v := ?_) (by rfl) (by kernel_rfl) (by kernel_rfl) (by kernel_rfl) (fun _ _ _ h => h) (Or.inl ⟨by kernel_rfl, ?_⟩) (by assumption) ?_; rotate_left 1; (focus (intro w hSw; (try dsimp only at hSw); simp only [List.getElem_toArray, List.getElem_cons_succ, List.getElem_cons_zero]; all_goals go_simp; all_goals (try with_reducible rfl))); (try simp only [Act.put, List.getElem_toArray, List.getElem_cons_succ, List.getElem_cons_zero, List.setIfInBounds_toArray, List.set_cons_zero, List.set_cons_succ])
  refine wpAnyH_done (by kernel_rfl) ?_ _
  refine NoPanic.normal ?_
  go_wp2_with fail
  go_ret3
  exact ⟨rfl, HB2.out.trans (HB4.out.mono HB2.out.size)⟩
end Go.Proofs.YtagiabcmbihoaaaDoor
namespace Go.Proofs.YtagiabcmbihoaaaDoor
open Go.ChangeShapes Go.WideShapes Go.ChangeAt Go.RowKit
set_option linter.unusedVariables false
set_option linter.unusedSimpArgs false
/-- One more bank, within y. -/
def openedB (D : BSt) (y lim : Int) : BSt := { D with nb := D.nb + 1, pr := upd D.pr D.nb y, us := upd D.us D.nb 0, lm := upd D.lm D.nb lim }
theorem BW.opened {w0 w w' : World} {L : BLoc} {D : BSt} (h : BW w0 w L D) (y lim : Int) (hy0 : -1 ≤ y) (hy1 : y < D.nb) (hn : D.nb < L.n) (hk : BkAt w' L.bB L.P L.p L.B L.A L.G1 L.G2 L.G3 L.n L.c L.mb L.dP (thN (D.nb + 1)) (fun _ => 0) (upd D.pr D.nb y) (upd D.us D.nb 0) (upd D.lm D.nb lim) D.o1 D.v1 D.o2 D.v2 D.o3 D.v3) (hb : PBelow w w' L.B L.A) : BW w0 w' L (openedB D y lim) ∧ UpT L.T w w' :=
  ⟨BW.bank h (D' := openedB D y lim) hk (hb.below h.kk.ar.lt.1 h.kk.ac.lt.1 h.bl) rfl (prok_put h.pk y hy0 hy1) hn, UpT.pb hb (by have := h.tt; omega) (by have := h.tt; omega)⟩
theorem bwroot_ok {w0 : World} {L : BLoc} {D : BSt} (lim : Int) (hl0 : 0 ≤ lim) (hl1 : lim ≤ 512) (k : Int) (hk : Hid ((D.nb : Int) = k)) (hn : D.nb < L.n) (w : World) (h : BW w0 w L D) :
    Calls Tryd.prog 6 #[.pointer (some ⟨L.P, 0, none⟩), .int .i64 lim] w fun e w' => e = .returned (.tuple #[.int .i64 k, .int .i64 0, .nilIface]) ∧ BW w0 w' L (openedB D (-1) lim) ∧ UpT L.T w w' := by
  rw [← hk.out]
  refine broot_of (P := L.P) _ _ _ _ rfl ((bopen_ok (-1) lim (by omega) (by omega) hl0 hl1 hn (Lib.hid h.pk) (Lib.hid (by rw [chL_neg _ _ (by omega)]; decide)) w h.kk).mono fun e w' ⟨h1, h2, h3⟩ => ⟨h1, h.opened (-1) lim (by omega) (by omega) hn h2 h3⟩)
theorem bwsub_ok {w0 : World} {L : BLoc} {D : BSt} (x : Int) (q : Nat) (hx : Hid (x = (q : Int))) (lim : Int) (hl0 : 0 ≤ lim) (hl1 : lim ≤ 512) (hq : q < D.nb) (k : Int) (hk : Hid ((D.nb : Int) = k)) (hn : D.nb < L.n) (hch : Hid ((chL D.pr q).length < 8)) (w : World) (h : BW w0 w L D) :
    Calls Tryd.prog 7 #[.pointer (some ⟨L.P, 0, none⟩), .int .i64 x, .int .i64 lim] w fun e w' => e = .returned (.tuple #[.int .i64 k, .int .i64 0, .nilIface]) ∧ BW w0 w' L (openedB D q lim) ∧ UpT L.T w w' := by
  rw [← hk.out, hx.out]
  exact bsub_of q lim hq h.nn _ _ _ _ rfl w h.kk ((bopen_ok (q : Int) lim (by omega) (by omega) hl0 hl1 hn (Lib.hid h.pk) hch w h.kk).mono fun e w' ⟨h1, h2, h3⟩ => ⟨h1, h.opened (q : Int) lim (by omega) (by omega) hn h2 h3⟩)
/-- Nothing yet. -/
def st0 : BSt := ⟨fun _ => false, fun _ => 0, fun _ b => zc b, fun _ => false, fun _ => 0, fun _ _ => 0, fun _ => false, fun _ => 0, fun _ b => zd b, 0, fun _ => 0, fun _ => 0, fun _ => 0, fun _ => -1, fun _ => 0, fun _ => -1, fun _ => 0, fun _ => -1, fun _ => 0⟩
set_option maxRecDepth 100000 in
set_option maxHeartbeats 2000000 in
theorem made18_is (x y z u : Int) (nn np nd nb : Nat) (hx : Hid (x = nn ∧ y = np ∧ z = nd ∧ u = nb)) (h1 : 1 ≤ nn ∧ nn ≤ 256) (h2 : 1 ≤ np ∧ np ≤ 256) (h3 : 1 ≤ nd ∧ nd ≤ 256) (h4 : 1 ≤ nb ∧ nb ≤ 256) (w : World) :
    Calls Tryd.prog 5 #[.int .i64 x, .int .i64 y, .int .i64 z, .int .i64 u] w fun e w' => ∃ L, e = .returned (.tuple #[.pointer (some ⟨L.P, 0, none⟩), .pointer (some ⟨L.mb, 0, none⟩), .pointer (some ⟨L.dP, 0, none⟩)]) ∧ BW w w' L st0 ∧ Hid (L.a.n = nn ∧ L.b.n = np ∧ L.dn = nd ∧ L.n = nb) := by
  go_enter Tryd.func5, Tryd.ntmps5
  go_wp2_with (first
    | (go_at_call 22; (with_reducible refine (mnew_ok x y 4 nn np (Lib.hid hx.out.1) (Lib.hid hx.out.2.1) h1.1 h1.2 h2.1 h2.2 (by decide) (by decide) _).mono ?_); rintro e w1 ⟨mb, S, a, b, N, cb, rfl, hm, hn⟩; have HM := Lib.hid hm; have HN := Lib.hid hn.out; clear hm hn)
    | (go_at_call 23; (with_reducible refine (dnew_ok z nd (Lib.hid hx.out.2.2.1) h3.1 h3.2 _).mono ?_); rintro e w2 ⟨dP, dp, dR, dG, dQ, rfl, hd, hb⟩; have HD := Lib.hid hd; have HB2 := Lib.hid hb; clear hd hb)
    | (go_at_call 24; (with_reducible refine (bknew_ok u nb mb dP (Lib.hid hx.out.2.2.2) h4.1 h4.2 _).mono ?_); rintro e w3 ⟨P, p, B, A, G1, G2, G3, rfl, hk, hb⟩; have HK := Lib.hid hk; have HB3 := Lib.hid hb; clear hk hb))
  go_ret3
  refine ⟨⟨mb, S, a, b, N, cb, w1.heap.size, dP, dp, dR, dG, dQ, nd, nd, w2.heap.size, P, p, B, A, G1, G2, G3, nb, nb, w3.heap.size, 4⟩, rfl, ?_, Lib.hid ⟨HN.out.1, HN.out.2, rfl, rfl⟩⟩
  have e : thN 0 = fun _ => false := by funext i; simp [thN]
  have hm := HM.out
  have hd := HD.out
  have hk := HK.out
  have s2 := HB2.out.size
  have s3 := HB3.out.size
  have hQ := (hd.qs.lt dQ rfl).2
  refine ⟨(hm.below HB2.out).below HB3.out, hd.below HB3.out, ?_, ⟨hm.ml, hm.ca.cl, hm.nN⟩, ⟨hd.pl.pl, hd.pl.ar.pl, hd.pl.ar.lt.2, hd.pl.gl.2, hQ⟩, s2, fun i hi => by simp [st0] at hi, Nat.zero_le _, ⟨s3, hk.pl, hk.ar.pl, hk.ar.lt.2, hk.ac.lt.2, hk.t1.lt.2, hk.t2.lt.2, hk.t3.lt.2⟩, Nat.le_refl _⟩
  show BkAt w3 _ _ _ _ _ _ _ _ _ _ _ _ (thN 0) _ _ _ _ _ _ _ _ _ _
  rw [e]
  exact hk
theorem bwpage_ok {w0 : World} {L : BLoc} {D : BSt} (y z : Int) (q : Nat) (hy : Hid (y = (q : Int))) (hq : q < D.nb) (a : Option Addr) (m c2 : Nat) (xs : List Int) (hm : Hid (xs.length = m)) (hx0 : m ≤ 32) (j : Nat) (hz : Hid ((j : Int) = z)) (hj : j < L.b.n) (hyes : Hid (freeB D.pt D.pv j = true)) (hno : Hid (∀ i, i < j → freeB D.pt D.pv i = false)) (v : Int) (hv : Hid (D.pv j = v)) (hfull : Hid ((chL D.pr q).any (fullB D.us D.lm) = false)) (hu : Hid (∀ i, i < L.n → -1000000 ≤ D.us i ∧ D.us i ≤ 1000000)) (w : World) (h : BW w0 w L D) (hs : SrcW L w a xs) :
    Calls Tryd.prog 10 #[.pointer (some ⟨L.P, 0, none⟩), .int .i64 y, .slice a m c2] w fun e w' => e = .returned (.tuple #[.int .i64 z, .int .i64 v, .nilIface]) ∧ BW w0 w' L (boughtP D q j v (fresh D.pW j xs)) ∧ UpT L.T w w' := by
  rw [hy.out, ← hz.out]
  exact bpage_ok q hq a m c2 xs hm hx0 j hj hyes hno v hv hfull hu w h hs
theorem bwpage_limit {w0 : World} {L : BLoc} {D : BSt} (y : Int) (q : Nat) (hy : Hid (y = (q : Int))) (hq : q < D.nb) (a : Option Addr) (m c2 : Nat) (xs : List Int) (hm : Hid (xs.length = m)) (hx0 : m ≤ 32) (hfull : Hid ((chL D.pr q).any (fullB D.us D.lm) = true)) (v : Value) (w : World) (h : BW w0 w L D) (hs : SrcW L w a xs) (hE : w.cell? ⟨3, 0, none⟩ = some v) (hlt : 3 < w.heap.size) :
    Calls Tryd.prog 10 #[.pointer (some ⟨L.P, 0, none⟩), .int .i64 y, .slice a m c2] w fun e w' => e = .returned (.tuple #[.int .i64 0, .int .i64 0, v]) ∧ Below w.heap.size w w' := by
  rw [hy.out]
  exact bpage_limit q hq a m c2 xs hm hx0 hfull v w h hs hE hlt
theorem chL_root {nb : Nat} {pr : Nat → Int} (hp : PrOk nb pr) (hb : nb ≤ 256) (q : Nat) (hq : q < nb) (h : pr q = -1) : chL pr (q : Int) = [(q : Int)] := by
  rw [chL_cons hp q hq hb, h, chL_neg _ _ (by omega)]
theorem d1_pk : PrOk 1 (openedB st0 (-1) 1).pr := fun i hi => by
  obtain rfl : i = 0 := by omega
  simp [openedB, st0, upd]
theorem d1_chain : chL (openedB st0 (-1) 1).pr ((0 : Nat) : Int) = [((0 : Nat) : Int)] := chL_root d1_pk (by decide) 0 (by decide) (by simp [openedB, st0, upd])
set_option maxRecDepth 100000 in
set_option maxHeartbeats 2000000 in
theorem bfirst_is (w : World) (A : Nat → Addr) (hS : Sen A w) : Calls Tryd.prog 4 #[] w fun e w' => e = .returned (.bool true) ∧ Below w.heap.size w w' := by
  have HS := Lib.hid hS
  clear hS
  go_enter Tryd.func4, Tryd.ntmps4
  go_wp2_with (first
    | (go_at_call 5; (with_reducible refine (made18_is 2 2 1 2 2 2 1 2 (Lib.hid ⟨rfl, rfl, rfl, rfl⟩) (by decide) (by decide) (by decide) (by decide) _).mono ?_); rintro e w1 ⟨L, rfl, hW, hn⟩; have HW1 := Lib.hid hW; have HN := Lib.hid hn.out; clear hW hn)
    | (go_at_call 6; (with_reducible refine (bwroot_ok 1 (by decide) (by decide) 0 (Lib.hid rfl) (by have := HN.out; simp [st0]; omega) _ HW1.out).mono ?_); rintro e w2 ⟨rfl, hW, hu⟩; have HW2 := Lib.hid hW; have HPg := Lib.hid (bwpage_ok 0 0 0 (Lib.hid rfl) (by decide) none 0 0 [] (Lib.hid rfl) (by decide) 0 (Lib.hid rfl) (by have := HN.out; omega) (Lib.hid (by decide)) (Lib.hid (by intro i hi; omega)) 0 (Lib.hid rfl) (Lib.hid (by rw [d1_chain]; decide)) (Lib.hid (fun i hi => by simp [openedB, st0, upd])) w2 hW (srcw_none L w2)); clear hW hu)
    | (go_at_call 10; (with_reducible refine HPg.out.mono ?_); rintro e w3 ⟨rfl, hW, hu⟩; have HW3 := Lib.hid hW; have HPl := Lib.hid (bwpage_limit 0 0 (Lib.hid rfl) (by decide) none 0 0 [] (Lib.hid rfl) (by decide) (Lib.hid (by show (chL (openedB st0 (-1) 1).pr ((0 : Nat) : Int)).any _ = true; rw [d1_chain]; show (List.any [((0 : Nat) : Int)] (fullB (addL (openedB st0 (-1) 1).us (chL (openedB st0 (-1) 1).pr ((0 : Nat) : Int)) 1) (openedB st0 (-1) 1).lm)) = true; rw [d1_chain]; decide)) (eV (sA A 6)) w3 hW (srcw_none L w3) (HS.out.below hW.bel).c6 (HS.out.below hW.bel).s6); clear hW hu)
    | (go_at_call 10; (with_reducible refine HPl.out.mono ?_); rintro e w4 ⟨rfl, hb⟩; have HW4 := Lib.hid (HW3.out.below hb); clear hb)
    | (go_at_call 21; (with_reducible refine (is_sen A 6 107 (by decide) (Lib.hid (by decide)) _ (HS.out.below HW4.out.bel)).mono ?_); rintro e w5 ⟨rfl, hb⟩; have HB5 := Lib.hid (HW4.out.below hb).bel; clear hb))
  go_ret
  exact ⟨rfl, HB5.out⟩
end Go.Proofs.YtagiabcmbihoaaaDoor
namespace Go.Proofs.YtagiabcmbihoaaaDoor
open Go.ChangeShapes Go.WideShapes Go.ChangeAt Go.RowKit
set_option linter.unusedVariables false
set_option linter.unusedSimpArgs false
theorem st0_nb : st0.nb = 0 := rfl
/-- Each within the one ahead of it. -/
def pD (k : Nat) (i : Nat) : Int := if i < k then (i : Int) - 1 else 0
end Go.Proofs.YtagiabcmbihoaaaDoor
namespace Go.Proofs.YtagiabcmbihoaaaDoor
open Go.ChangeShapes Go.WideShapes Go.ChangeAt Go.RowKit Go.Maps
set_option linter.unusedVariables false
set_option linter.unusedSimpArgs false
theorem dlawI : Keyed Tryd.prog 3 := int_keyed Tryd.underlying3
theorem dzeroU (w : World) : (zeroValue 169).run Tryd.prog w = .ok (.agg #[]) w := by kernel_rfl
theorem dfit {x : Int} (h0 : 0 ≤ x) (h1 : x ≤ 1000) : (Lit.int .i64 x).wf = true := WalkArith.wf_i64 ⟨by omega, by omega⟩
theorem zqhas_n {q o : Nat} (x : Int) (h0 : 0 ≤ x) (h1 : x ≤ 1000) (w : World) (hc : w.cell? ⟨q, o + 1, none⟩ = some (.map none)) :
    Calls Tryd.prog 94 #[.pointer (some ⟨q, o, none⟩), .int .i64 x] w fun e w' => e = .returned (.bool false) ∧ Below w.heap.size w w' := by
  have hl := fun W : World => Maps.look_nil (w := W) true dlawI Tryd.underlying155 (dzeroU W) (keyOf_int_mk Tryd.underlying3 (dfit h0 h1))
  simp only [if_true] at hl
  go_enter Tryd.func94, Tryd.ntmps94
  go_wp2
  go_ret
  exact ⟨rfl, (Below.refl _ _).alloc (Nat.le_refl _) _⟩
theorem zqdrop_n {q o : Nat} (x : Int) (h0 : 0 ≤ x) (h1 : x ≤ 1000) (w : World) (hc : w.cell? ⟨q, o + 1, none⟩ = some (.map none)) :
    Calls Tryd.prog 88 #[.pointer (some ⟨q, o, none⟩), .int .i64 x] w fun e w' => e = .returned (.bool false) ∧ Below w.heap.size w w' := by
  have HC := Lib.hid (zqhas_n x h0 h1 w hc)
  clear hc
  go_enter Tryd.func88, Tryd.ntmps88
  go_wp2_with (first | (go_at_call 94; (with_reducible refine HC.out.mono ?_); rintro e w1 ⟨rfl, hb⟩; have HB := Lib.hid hb; clear hb))
  go_ret
  exact ⟨rfl, HB.out⟩
set_option maxRecDepth 100000 in
theorem dunstall_no {base P p B G Q n c : Nat} {th : Nat → Bool} {vr_ : Nat → Int} {W : Nat → Nat → Value} (x : Int) (h0 : 0 ≤ x) (h1 : x ≤ 1000) (w : World) (h : DsAt w base P p B G Q n c th vr_ W) :
    Calls Tryd.prog 77 #[.pointer (some ⟨P, 0, none⟩), .int .i64 x] w fun e w' => e = .returned (.tuple #[]) ∧ Below w.heap.size w w' := by
  have H := Lib.hid h
  have f2 := h.f2
  have hn := h.pl.ar.le
  clear h
  go_enter Tryd.func77, Tryd.ntmps77
  go_wp2_with fail
  clear f2
  go_loopw [10] (fun i wr => ∃ k : Nat, k ≤ n ∧ i = .int .i64 k ∧ Below w.heap.size w wr) (fun i _ => n - (intOf i).toNat)
  case atStart => exact ⟨0, by omega, rfl, Below.refl _ _⟩
  case round =>
    obtain ⟨k, hk, rfl, hB⟩ := hrel
    have HB := Lib.hid hB
    by_cases hlt : k < n
    · have HR := Lib.hid (H.out.below hB)
      have f2 := HR.out.f2
      have k0 : (0 : Int) ≤ k := by omega
      have k1 : (k : Int) < n := by omega
      clear hB
      go_wp2_with (first | (go_at_call 88; (with_reducible refine (zqdrop_n x h0 h1 _ (HR.out.queue k hlt).2).mono ?_); rintro e w1 ⟨rfl, hb⟩; have HB2 := Lib.hid (HB.out.trans (hb.mono HB.out.size)); clear hb f2))
      go_roundw
      case rel => exact ⟨k + 1, by omega, by go_num, HB2.out⟩
      case measure => simp [intOf]; omega
    · obtain rfl : k = n := by omega
      have hdd : decide (k < k) = false := by simp
      clear hB
      go_wp2_with fail
      go_end0
      exact ⟨rfl, HB.out⟩
set_option maxRecDepth 100000 in
theorem zclone_n (w : World) : Calls Tryd.prog 96 #[.slice none 0 0] w fun e w' => e = .returned (.slice none 0 0) ∧ Below w.heap.size w w' := by
  have hq : ∀ W : World, (binOp .eql 22 (.slice none 0 0) (.slice none 0 0)).run Tryd.prog W = .ok (.bool true) W := fun W => by kernel_rfl
  go_enter Tryd.func96, Tryd.ntmps96
  go_wp2_with fail
  go_ret
  exact ⟨rfl, Below.refl _ _⟩
theorem zall_n {q o : Nat} (w : World) (hc : w.cell? ⟨q, o, none⟩ = some (.slice none 0 0)) : Calls Tryd.prog 93 #[.pointer (some ⟨q, o, none⟩)] w fun e w' => e = .returned (.slice none 0 0) ∧ Below w.heap.size w w' := by
  go_enter Tryd.func93, Tryd.ntmps93
  go_wp2_with (first | (go_at_call 96; (with_reducible refine (zclone_n _).mono ?_); rintro e w1 ⟨rfl, hb⟩; have HB := Lib.hid hb; clear hb))
  go_ret
  exact ⟨rfl, HB.out⟩
theorem dcallers_no {base P p B G Q n c : Nat} {th : Nat → Bool} {vr_ : Nat → Int} {W : Nat → Nat → Value} (k : Nat) (hk : k < n) (ht : Hid (th k = true)) (w : World) (h : DsAt w base P p B G Q n c th vr_ W) :
    Calls Tryd.prog 87 #[.pointer (some ⟨P, 0, none⟩), .int .i64 (k : Int)] w fun e w' => e = .returned (.slice none 0 0) ∧ Below w.heap.size w w' := by
  have H := Lib.hid h
  have f0 := h.pl.f0
  have f2 := h.f2
  have k0 : (0 : Int) ≤ k := by omega
  have k1 : (k : Int) < n := by omega
  clear h
  go_enter Tryd.func87, Tryd.ntmps87
  go_wp2_with (first
    | (go_at_call 17; (with_reducible refine (athere_in k hk true ht _ H.out.pl.ar).mono ?_); rintro e w1 ⟨rfl, rfl⟩)
    | (go_at_call 93; (with_reducible refine (zall_n _ (H.out.queue k hk).1).mono ?_); rintro e w1 ⟨rfl, hb⟩; have HB := Lib.hid hb; clear hb))
  go_ret
  exact ⟨rfl, HB.out⟩
theorem dwake_no {base P p B G Q n c : Nat} {th : Nat → Bool} {vr_ : Nat → Int} {W : Nat → Nat → Value} (k : Nat) (hk : k < n) (ht : Hid (th k = true)) (w : World) (h : DsAt w base P p B G Q n c th vr_ W) :
    Calls Tryd.prog 76 #[.pointer (some ⟨P, 0, none⟩), .int .i64 (k : Int)] w fun e w' => e = .returned (.slice none 0 0) ∧ Below w.heap.size w w' := by
  have HC := Lib.hid (dcallers_no k hk ht w h)
  clear h
  go_enter Tryd.func76, Tryd.ntmps76
  go_wp2_with (first
    | (go_at_call 87; (with_reducible refine HC.out.mono ?_); rintro e w1 ⟨rfl, hb⟩; have HB := Lib.hid hb; clear hb))
  go_ret
  exact ⟨rfl, HB.out⟩
set_option maxRecDepth 100000 in
theorem dend_ok {base P p B G Q n c : Nat} {th : Nat → Bool} {vr_ : Nat → Int} {W : Nat → Nat → Value} (k : Nat) (hk : k < n) (ht : Hid (th k = true)) (v : Int) (hv : Hid (vr_ k = v)) (v0 : -1000000000 ≤ v) (v1 : v ≤ 1000000000) (w : World) (h : DsAt w base P p B G Q n c th vr_ W) :
    Calls Tryd.prog 67 #[.pointer (some ⟨P, 0, none⟩), .int .i64 (k : Int)] w fun e w' => e = .returned .nilIface ∧ DsAt w' base P p B G Q n c (upd th k false) (upd vr_ k (v + 1)) W ∧ PBelow w w' B G := by
  have H := Lib.hid h
  have f0 := h.pl.f0
  have hn := h.pl.ar.le
  clear h
  go_enter Tryd.func67, Tryd.ntmps67
  go_wp2_with (first
    | (go_at_call 17; (with_reducible refine (athere_in k hk true ht _ H.out.pl.ar).mono ?_); rintro e w1 ⟨rfl, rfl⟩)
    | (go_at_call 76; (with_reducible refine (dwake_no k hk ht _ H.out).mono ?_); rintro e w1 ⟨rfl, hb⟩; have HB1 := Lib.hid hb; have H1 := Lib.hid (H.out.below hb); clear hb f0)
    | (go_at_call 77; (with_reducible refine (dunstall_no (k : Int) (by omega) (by omega) _ H1.out).mono ?_); rintro e w2 ⟨rfl, hb⟩; have HB2 := Lib.hid (HB1.out.trans (hb.mono HB1.out.size)); have H2 := Lib.hid (H1.out.below hb); have f9 := H2.out.pl.f0; clear hb)
    | (go_at_call 46; (with_reducible refine (agive_ok _ H2.out.pl.ar k hk ht v hv v0 v1).mono ?_); rintro e w3 ⟨rfl, hA, hg⟩; have H3 := Lib.hid (H2.out.turn hA hg); have HB3 := Lib.hid ((PBelow.of_below (B := B) (G := G) HB2.out).trans (PBelow.of hg (.inl rfl))); clear hA hg f9))
  go_ret
  exact ⟨rfl, H3.out, HB3.out⟩
theorem infoDomS : (Tryd.prog.info? 127).map (·.size) = some 107 := by kernel_rfl
set_option maxRecDepth 100000 in
set_option maxHeartbeats 1000000 in
theorem dmake_ok {base P p B G Q n c : Nat} {th : Nat → Bool} {vr_ : Nat → Int} {W : Nat → Nat → Value} (j : Nat) (hj : j < n) (hyes : Hid (freeB th vr_ j = true)) (hno : Hid (∀ i, i < j → freeB th vr_ i = false)) (v : Int) (hv : Hid (vr_ j = v)) (w : World) (h : DsAt w base P p B G Q n c th vr_ W) :
    Calls Tryd.prog 33 #[.pointer (some ⟨P, 0, none⟩)] w fun e w' => e = .returned (.tuple #[.int .i64 j, .int .i64 v, .nilIface]) ∧ DsAt w' base P p B G Q n c (upd th j true) vr_ (updS W j 0 zsD1) ∧ PBelow w w' B G := by
  have H := Lib.hid h
  have f0 := h.pl.f0
  have hn := h.pl.ar.le
  have k0 : (0 : Int) ≤ j := by omega
  have k1 : (j : Int) < n := by omega
  clear h
  go_enter Tryd.func33, Tryd.ntmps33
  go_upto_region 4 with (first
    | (go_at_call 56; (with_reducible refine (atake_ok _ H.out.pl.ar j hj hyes hno v hv).mono ?_); rintro e w1 ⟨rfl, hA, hg⟩; have H1 := Lib.hid (H.out.turn hA hg); have HB1 := Lib.hid (PBelow.of (G := G) hg (.inl rfl)); have f1 := H1.out.pl.f1; have HTh : Hid (w1.there G (j * 107) 107) := Lib.hid (H1.out.pl.there j 0 107 hj (by decide)); clear hA hg f0))
  go_wp2_with (refine wpList_store_mid (by rfl) _ _ _ (by rfl) G (j * 107) zsD1.toArray (by kernel_rfl) (by rfl) HTh.out (by rw [List.size_toArray, zsD1_len]; exact infoDomS) (all_oneCell_toArray zsD1_one) ?_; obtain ⟨w2, hw2⟩ : ∃ w2, w2 = w1.setCells G (j * 107) zsD1.toArray.toList := ⟨_, rfl⟩; rw [← hw2]; have H2 := Lib.hid (H1.out.cells j 0 hj zsD1 (by rw [zsD1_len]; decide)); rw [Nat.add_zero, show zsD1 = zsD1.toArray.toList from rfl, ← hw2] at H2; clear hw2)
  go_ret3
  exact ⟨rfl, H2.out.1, HB1.out.trans (PBelow.of H2.out.2 (.inr rfl))⟩
end Go.Proofs.YtagiabcmbihoaaaDoor
namespace Go.Proofs.YtagiabcmbihoaaaDoor
open Go.ChangeShapes Go.WideShapes Go.ChangeAt Go.RowKit
set_option linter.unusedVariables false
set_option linter.unusedSimpArgs false
/-- A domain's cells in a row. -/
def rowL (f : Nat → Value) : List Value := (List.range 107).map f
section
variable {P : Program}
end
/-- Keys among a domain's cells. -/
def KeysIn (f : Nat → Value) (kk : Nat → Nat → Int) : Prop := ∀ q r, q < 19 → r < 5 → f (11 + (q * 5 + r)) = kval r (kk q r)
end Go.Proofs.YtagiabcmbihoaaaDoor
namespace Go.Proofs.YtagiabcmbihoaaaDoor
open Go.ChangeShapes Go.WideShapes Go.ChangeAt Go.RowKit
set_option linter.unusedVariables false
set_option linter.unusedSimpArgs false
set_option maxHeartbeats 1000000 in
theorem dkeyof_in {base P p B G Q n c : Nat} {th : Nat → Bool} {vr_ : Nat → Int} {W : Nat → Nat → Value} (c0 x d : Int) (k : Nat) (hx : Hid (x = (k : Int))) (hk : k < n) (ht : Hid (th k = true)) (hd : d ≤ 536870911) (v : Int) (hv : Hid (vr_ k = v)) (w : World) (h : DsAt w base P p B G Q n c th vr_ W) :
    Calls Tryd.prog 64 #[.pointer (some ⟨P, 0, none⟩), .int .i64 c0, .int .i64 x, .int .u32 d] w fun e w' => e = .returned (Value.agg #[.int .i64 c0, .int .i64 x, .int .i64 v, .int .i64 0, .int .u32 d]) ∧ Below w.heap.size w w' := by
  have H := Lib.hid (fun o => h.below ((Below.refl _ _).alloc (Nat.le_refl _) _ : Below w.heap.size w (w.alloc o)))
  have f0 := fun o => (h.below ((Below.refl _ _).alloc (Nat.le_refl _) _ : Below w.heap.size w (w.alloc o))).pl.f0
  have d0 : decide (536870911 < d) = false := decide_eq_false (by omega)
  have hkx := hx.out
  subst hkx
  clear h
  go_enter Tryd.func64, Tryd.ntmps64
  go_wp2_with (first
    | (go_at_call 17; (with_reducible refine (athere_in k hk true ht _ (H.out _).pl.ar).mono ?_); rintro e w1 ⟨rfl, rfl⟩)
    | (go_at_call 63; (with_reducible refine (aver_in k hk v hv _ (H.out _).pl.ar).mono ?_); rintro e w1 ⟨rfl, rfl⟩))
  refine bodyPost_ret (v := (Value.agg #[.int .i64 c0, .int .i64 (k : Int), .int .i64 v, .int .i64 0, .int .u32 d])) (by simp [results, Tryd.results64, go_sem]) rfl ⟨rfl, ?_⟩
  exact (Below.refl _ _).alloc (Nat.le_refl _) _
theorem athere_dead {base p B n c : Nat} {th : Nat → Bool} {vr : Nat → Int} (k : Nat) (x : Int) (hx : Hid (x = (k : Int))) (ht : Hid (th k = false)) (w : World) (hA : ArAt w base p B n c th vr) : Calls Tryd.prog 17 #[.pointer (some ⟨p, 0, none⟩), .int .i64 x] w fun e w' => e = .returned (.bool false) ∧ w = w' := by
  rw [hx.out]
  exact athere_is (k : Int) false (Lib.hid (by unfold thereB; rw [Int.toNat_natCast, ht.out]; simp)) w hA
set_option maxHeartbeats 1000000 in
theorem dkeyof_dead {base P p B G Q n c : Nat} {th : Nat → Bool} {vr_ : Nat → Int} {W : Nat → Nat → Value} (c0 x d : Int) (k : Nat) (hx : Hid (x = (k : Int))) (ht : Hid (th k = false)) (w : World) (h : DsAt w base P p B G Q n c th vr_ W) :
    Calls Tryd.prog 64 #[.pointer (some ⟨P, 0, none⟩), .int .i64 c0, .int .i64 x, .int .u32 d] w fun e w' => e = .returned (Value.agg #[.int .i64 0, .int .i64 0, .int .i64 0, .int .i64 0, .int .u32 0]) ∧ Below w.heap.size w w' := by
  have H := Lib.hid (fun o => h.below ((Below.refl _ _).alloc (Nat.le_refl _) _ : Below w.heap.size w (w.alloc o)))
  have f0 := fun o => (h.below ((Below.refl _ _).alloc (Nat.le_refl _) _ : Below w.heap.size w (w.alloc o))).pl.f0
  clear h
  go_enter Tryd.func64, Tryd.ntmps64
  go_wp2_with (first
    | (go_at_call 17; (with_reducible refine (athere_dead k x hx ht _ (H.out _).pl.ar).mono ?_); rintro e w1 ⟨rfl, rfl⟩))
  refine bodyPost_ret (v := (Value.agg #[.int .i64 0, .int .i64 0, .int .i64 0, .int .i64 0, .int .u32 0])) (by simp [results, Tryd.results64, go_sem]) rfl ⟨rfl, ?_⟩
  exact (Below.refl _ _).alloc (Nat.le_refl _) _
theorem dkey_of {P : Nat} (x : Int) (k0 k1 k2 k3 k4 : Int) (w : World) (h : ∀ W, Below w.heap.size w W → Calls Tryd.prog 64 #[.pointer (some ⟨P, 0, none⟩), .int .i64 4, .int .i64 x, .int .u32 0] W fun e w' => e = .returned (Value.agg #[.int .i64 k0, .int .i64 k1, .int .i64 k2, .int .i64 k3, .int .u32 k4]) ∧ Below W.heap.size W w') :
    Calls Tryd.prog 41 #[.pointer (some ⟨P, 0, none⟩), .int .i64 x] w fun e w' => e = .returned (Value.agg #[.int .i64 k0, .int .i64 k1, .int .i64 k2, .int .i64 k3, .int .u32 k4]) ∧ Below w.heap.size w w' := by
  have HC := Lib.hid h
  clear h
  go_enter Tryd.func41, Tryd.ntmps41
  go_upto_region 1 with fail
  generalize hA : World.alloc w _ = wA
  have HA : Hid (Below w.heap.size w wA ∧ KeyC wA w.heap.size 0 0 0 0 0) := Lib.hid (by rw [← hA]; exact ⟨(Below.refl _ _).alloc (Nat.le_refl _) _, KeyC.new w 0 0 0 0 0 _⟩)
  clear hA
  go_wp2_with (first
    | (go_at_call 64; (with_reducible refine (HC.out _ HA.out.1).mono ?_); rintro e w1 ⟨rfl, hb⟩; have HB := Lib.hid (HA.out.1.trans (hb.mono HA.out.1.size)); have HK := Lib.hid (HA.out.2.below hb); have q0 := HK.out.c0; have q1 := HK.out.c1; have q2 := HK.out.c2; have q3 := HK.out.c3; have q4 := HK.out.c4; have g0 := HK.out.fr 0; have g1 := HK.out.fr 1; have g2 := HK.out.fr 2; have g3 := HK.out.fr 3; have g4 := HK.out.fr 4; clear hb))
  have t := HK.out.set k0 k1 k2 k3 k4
  have t0 := t.c0
  have t1 := t.c1
  have t2 := t.c2
  have t3 := t.c3
  have t4 := t.c4
  refine bodyPost_ret (v := (Value.agg #[.int .i64 k0, .int .i64 k1, .int .i64 k2, .int .i64 k3, .int .u32 k4])) (by simp [results, Tryd.results41, go_sem, t0, t1, t2, t3, t4]) rfl ⟨rfl, ?_⟩
  exact ((((HB.out.setCell (Nat.le_refl _) _).setCell (Nat.le_refl _) _).setCell (Nat.le_refl _) _).setCell (Nat.le_refl _) _).setCell (Nat.le_refl _) _
end Go.Proofs.YtagiabcmbihoaaaDoor
namespace Go.Proofs.YtagiabcmbihoaaaDoor
open Go.ChangeShapes Go.WideShapes Go.ChangeAt Go.RowKit
set_option linter.unusedVariables false
set_option linter.unusedSimpArgs false
set_option maxHeartbeats 1000000 in
theorem spagekey_dead {S : Nat} {a b : Shp} {th : Nat → Bool} {vr_ : Nat → Int} {W : Nat → Nat → Value} {th2 : Nat → Bool} {vr2 : Nat → Int} {W2 : Nat → Nat → Int} (x : Int) (k : Nat) (hx : Hid (x = (k : Int))) (ht : Hid (th2 k = false)) (w : World) (h : (StAt w S a b th vr_ W th2 vr2 W2)) :
    Calls Tryd.prog 40 #[.pointer (some ⟨S, 0, none⟩), .int .i64 x] w fun e w' => e = .returned (Value.agg #[.int .i64 0, .int .i64 0, .int .i64 0, .int .i64 0, .int .u32 0]) ∧ Below w.heap.size w w' := by
  have H := Lib.hid (fun o => h.below ((Below.refl _ _).alloc (Nat.le_refl _) _ : Below w.heap.size w (w.alloc o)))
  have s1 : ∀ o, (w.alloc o).cell? ⟨S, 1, none⟩ = some (.pointer (some ⟨b.P, 0, none⟩)) := fun o => (H.out o).s1
  have f1 : ∀ o, (w.alloc o).cell? ⟨b.P, 0, none⟩ = some (.pointer (some ⟨b.p, 0, none⟩)) := fun o => (H.out o).pg.f0
  clear h
  go_enter Tryd.func40, Tryd.ntmps40
  go_wp2_with (first
    | (go_at_call 17; (with_reducible refine (athere_dead k x hx ht _ (H.out _).pg.ar).mono ?_); rintro e w1 ⟨rfl, rfl⟩))
  refine bodyPost_ret (v := (Value.agg #[.int .i64 0, .int .i64 0, .int .i64 0, .int .i64 0, .int .u32 0])) (by simp [results, Tryd.results40, go_sem]) rfl ⟨rfl, ?_⟩
  exact (Below.refl _ _).alloc (Nat.le_refl _) _
set_option maxHeartbeats 1000000 in
theorem snodekey_dead {S : Nat} {a b : Shp} {th : Nat → Bool} {vr_ : Nat → Int} {W : Nat → Nat → Value} {th2 : Nat → Bool} {vr2 : Nat → Int} {W2 : Nat → Nat → Int} (x y : Int) (k : Nat) (hx : Hid (x = (k : Int))) (ht : Hid (th k = false)) (w : World) (h : (StAt w S a b th vr_ W th2 vr2 W2)) :
    Calls Tryd.prog 39 #[.pointer (some ⟨S, 0, none⟩), .int .i64 x, .int .i64 y] w fun e w' => e = .returned (Value.agg #[.int .i64 0, .int .i64 0, .int .i64 0, .int .i64 0, .int .u32 0]) ∧ Below w.heap.size w w' := by
  have H := Lib.hid (fun o => h.below ((Below.refl _ _).alloc (Nat.le_refl _) _ : Below w.heap.size w (w.alloc o)))
  have s0 : ∀ o, (w.alloc o).cell? ⟨S, 0, none⟩ = some (.pointer (some ⟨a.P, 0, none⟩)) := fun o => (H.out o).s0
  have f0 : ∀ o, (w.alloc o).cell? ⟨a.P, 0, none⟩ = some (.pointer (some ⟨a.p, 0, none⟩)) := fun o => (H.out o).nd.f0
  clear h
  go_enter Tryd.func39, Tryd.ntmps39
  go_wp2_with (first
    | (go_at_call 17; (with_reducible refine (athere_dead k x hx ht _ (H.out _).nd.ar).mono ?_); rintro e w1 ⟨rfl, rfl⟩))
  refine bodyPost_ret (v := (Value.agg #[.int .i64 0, .int .i64 0, .int .i64 0, .int .i64 0, .int .u32 0])) (by simp [results, Tryd.results39, go_sem]) rfl ⟨rfl, ?_⟩
  exact (Below.refl _ _).alloc (Nat.le_refl _) _
/-- Owned's function for nodes. -/
theorem owned2_of {w0 : World} {L : BLoc} {D : BSt} (bb : Nat) (x k0 k1 k2 k3 k4 : Int) (w : World) (h : BW w0 w L D) (hb : w.cell? ⟨bb, 0, none⟩ = some (.pointer (some ⟨L.P, 0, none⟩))) (hbl : bb < w.heap.size)
    (hc : ∀ W, Below w.heap.size w W → Calls Tryd.prog 39 #[.pointer (some ⟨L.S, 0, none⟩), .int .i64 x, .int .i64 0] W fun e w' => e = .returned (Value.agg #[.int .i64 k0, .int .i64 k1, .int .i64 k2, .int .i64 k3, .int .u32 k4]) ∧ Below W.heap.size W w') :
    Calls Tryd.prog 38 #[.int .i64 x, .pointer (some ⟨bb, 0, none⟩)] w fun e w' => e = .returned (Value.agg #[.int .i64 k0, .int .i64 k1, .int .i64 k2, .int .i64 k3, .int .u32 k4]) ∧ Below w.heap.size w w' := by
  have HC := Lib.hid hc
  have H := Lib.hid h
  have HX := Lib.hid (show w.cell? ⟨bb, 0, none⟩ = some (.pointer (some ⟨L.P, 0, none⟩)) ∧ bb < w.heap.size from ⟨hb, hbl⟩)
  clear h hc hb hbl
  go_enter Tryd.func38, Tryd.ntmps38
  go_upto_region 1 with fail
  generalize hA : World.alloc w _ = wA
  have HA : Hid (Below w.heap.size w wA ∧ KeyC wA w.heap.size 0 0 0 0 0) := Lib.hid (by rw [← hA]; exact ⟨(Below.refl _ _).alloc (Nat.le_refl _) _, KeyC.new w 0 0 0 0 0 _⟩)
  clear hA
  have HWA := Lib.hid (H.out.below HA.out.1)
  have c0 := (HA.out.1.cell (p := ⟨bb, 0, none⟩) HX.out.2).trans HX.out.1
  have f1 := HWA.out.kk.f1
  have m0 := HWA.out.mm.m0
  go_wp2_with (first
    | (go_at_call 39; (with_reducible refine (HC.out _ HA.out.1).mono ?_); rintro e w1 ⟨rfl, hb⟩; have HB := Lib.hid (HA.out.1.trans (hb.mono HA.out.1.size)); have HK := Lib.hid (HA.out.2.below hb); have q0 := HK.out.c0; have q1 := HK.out.c1; have q2 := HK.out.c2; have q3 := HK.out.c3; have q4 := HK.out.c4; have g0 := HK.out.fr 0; have g1 := HK.out.fr 1; have g2 := HK.out.fr 2; have g3 := HK.out.fr 3; have g4 := HK.out.fr 4; clear hb c0 f1 m0))
  have t := HK.out.set k0 k1 k2 k3 k4
  have t0 := t.c0
  have t1 := t.c1
  have t2 := t.c2
  have t3 := t.c3
  have t4 := t.c4
  refine bodyPost_ret (v := (Value.agg #[.int .i64 k0, .int .i64 k1, .int .i64 k2, .int .i64 k3, .int .u32 k4])) (by simp [results, Tryd.results38, go_sem, t0, t1, t2, t3, t4]) rfl ⟨rfl, ?_⟩
  exact ((((HB.out.setCell (Nat.le_refl _) _).setCell (Nat.le_refl _) _).setCell (Nat.le_refl _) _).setCell (Nat.le_refl _) _).setCell (Nat.le_refl _) _
end Go.Proofs.YtagiabcmbihoaaaDoor
namespace Go.Proofs.YtagiabcmbihoaaaDoor
open Go.ChangeShapes Go.WideShapes Go.ChangeAt Go.RowKit
set_option linter.unusedVariables false
set_option linter.unusedSimpArgs false
/-- Is what a key names there? -/
def liveK (L : BLoc) (D : BSt) (k0 k1 k2 : Int) : Bool := if k0 = 4 then (thereB L.dn D.dt k1 && (D.dv k1.toNat == k2)) else (if k0 = 2 then (thereB L.a.n D.nt k1 && (D.nv k1.toNat == k2)) else if k0 = 3 then (thereB L.b.n D.pt k1 && (D.pv k1.toNat == k2)) else false)
theorem KeyC.k5 {w : World} {b : Nat} {k0 k1 k2 k3 k4 : Int} (h : KeyC w b k0 k1 k2 k3 k4) : (World.cell? w ⟨b, 0, none⟩ = some (.int .i64 k0) ∧ World.cell? w ⟨b, 1, none⟩ = some (.int .i64 k1) ∧ World.cell? w ⟨b, 2, none⟩ = some (.int .i64 k2) ∧ World.cell? w ⟨b, 3, none⟩ = some (.int .i64 k3) ∧ World.cell? w ⟨b, 4, none⟩ = some (.int .u32 k4)) := ⟨h.c0, h.c1, h.c2, h.c3, h.c4⟩
set_option maxRecDepth 100000 in
set_option maxHeartbeats 1000000 in
theorem blive_is {w0 : World} {L : BLoc} {D : BSt} (k0 k1 k2 k3 k4 : Int) (t : Bool) (ht : Hid (liveK L D k0 k1 k2 = t)) (w : World) (h : BW w0 w L D) :
    Calls Tryd.prog 48 #[.pointer (some ⟨L.P, 0, none⟩), (Value.agg #[.int .i64 k0, .int .i64 k1, .int .i64 k2, .int .i64 k3, .int .u32 k4])] w fun e w' => e = .returned (.bool t) ∧ Below w.heap.size w w' := by
  have H := Lib.hid h
  clear h
  by_cases h4 : k0 = 4
  · have t4 : (k0 == 4) = true := by simpa using h4
    have HT : Hid ((thereB L.dn D.dt k1 && (D.dv k1.toNat == k2)) = t) := Lib.hid (by have := ht.out; unfold liveK at this; rwa [if_pos h4] at this)
    clear ht h4
    go_enter Tryd.func48, Tryd.ntmps48
    go_upto_region 2 with fail
    generalize hw2 : World.alloc w _ = w2
    have HB2 : Hid (Below w.heap.size w w2) := Lib.hid (by rw [← hw2]; exact (Below.refl _ _).alloc (Nat.le_refl _) _)
    obtain ⟨kb, hkb⟩ : ∃ kb, kb = w.heap.size := ⟨_, rfl⟩
    have HK2 : Hid (KeyC w2 kb k0 k1 k2 k3 k4) := Lib.hid (by rw [← hw2, hkb]; exact KeyC.new w k0 k1 k2 k3 k4 _)
    rw [← hkb]
    clear hw2 hkb
    have HW2 := Lib.hid ((H.out.below HB2.out).below (Below.refl _ _).drew)
    have hS0 : (World.cell? w2.drew ⟨L.P, 2, none⟩ = some (.pointer (some ⟨L.dP, 0, none⟩)) ∧ World.cell? w2.drew ⟨L.dP, 0, none⟩ = some (.pointer (some ⟨L.dp, 0, none⟩)) ∧ (World.cell? w2.drew ⟨kb, 0, none⟩ = some (.int .i64 k0) ∧ World.cell? w2.drew ⟨kb, 1, none⟩ = some (.int .i64 k1) ∧ World.cell? w2.drew ⟨kb, 2, none⟩ = some (.int .i64 k2) ∧ World.cell? w2.drew ⟨kb, 3, none⟩ = some (.int .i64 k3) ∧ World.cell? w2.drew ⟨kb, 4, none⟩ = some (.int .u32 k4))) := ⟨HW2.out.kk.f2, HW2.out.dd.pl.f0, (HK2.out.below (Below.refl _ _).drew).k5⟩
    refine wp_region_noPanic ?_
    refine wp_region_held_drew (S := fun w' => (World.cell? w' ⟨L.P, 2, none⟩ = some (.pointer (some ⟨L.dP, 0, none⟩)) ∧ World.cell? w' ⟨L.dP, 0, none⟩ = some (.pointer (some ⟨L.dp, 0, none⟩)) ∧ (World.cell? w' ⟨kb, 0, none⟩ = some (.int .i64 k0) ∧ World.cell? w' ⟨kb, 1, none⟩ = some (.int .i64 k1) ∧ World.cell? w' ⟨kb, 2, none⟩ = some (.int .i64 k2) ∧ World.cell? w' ⟨kb, 3, none⟩ = some (.int .i64 k3) ∧ World.cell? w' ⟨kb, 4, none⟩ = some (.int .u32 k4)))) (by kernel_rfl) hS0 (fun hHeld => ?_)
    clear hS0
    refine wpAnyH_take (i := 0) (v := ?_) (by rfl) (by kernel_rfl) (by kernel_rfl) (by kernel_rfl) (fun _ _ _ h => h) (Or.inl ⟨by kernel_rfl, ?_⟩) (by assumption) ?_; rotate_left 1; (focus (intro w hSw; (try dsimp only at hSw); simp only [List.getElem_toArray, List.getElem_cons_succ, List.getElem_cons_zero]; all_goals go_simp; all_goals (try with_reducible rfl))); (try simp only [Act.put, List.getElem_toArray, List.getElem_cons_succ, List.getElem_cons_zero, List.setIfInBounds_toArray, List.set_cons_zero, List.set_cons_succ])
    refine wpAnyH_take (i := 1) (v := ?_) (by rfl) (by kernel_rfl) (by kernel_rfl) (by kernel_rfl) (fun _ _ _ h => h) (Or.inl ⟨by kernel_rfl, ?_⟩) (by assumption) ?_; rotate_left 1; (focus (intro w hSw; (try dsimp only at hSw); simp only [List.getElem_toArray, List.getElem_cons_succ, List.getElem_cons_zero]; all_goals go_simp; all_goals (try with_reducible rfl))); (try simp only [Act.put, List.getElem_toArray, List.getElem_cons_succ, List.getElem_cons_zero, List.setIfInBounds_toArray, List.set_cons_zero, List.set_cons_succ])
    refine wpAnyH_take (i := 2) (v := ?_) (by rfl) (by kernel_rfl) (by kernel_rfl) (by kernel_rfl) (fun _ _ _ h => h) (Or.inl ⟨by kernel_rfl, ?_⟩) (by assumption) ?_; rotate_left 1; (focus (intro w hSw; (try dsimp only at hSw); simp only [List.getElem_toArray, List.getElem_cons_succ, List.getElem_cons_zero]; all_goals go_simp; all_goals (try with_reducible rfl))); (try simp only [Act.put, List.getElem_toArray, List.getElem_cons_succ, List.getElem_cons_zero, List.setIfInBounds_toArray, List.set_cons_zero, List.set_cons_succ])
    refine wpAnyH_take (i := 3) (v := ?_) (by rfl) (by kernel_rfl) (by kernel_rfl) (by kernel_rfl) (fun _ _ _ h => h) (Or.inl ⟨by kernel_rfl, ?_⟩) (by assumption) ?_; rotate_left 1; (focus (intro w hSw; (try dsimp only at hSw); simp only [List.getElem_toArray, List.getElem_cons_succ, List.getElem_cons_zero]; all_goals go_simp; all_goals (try with_reducible rfl))); (try simp only [Act.put, List.getElem_toArray, List.getElem_cons_succ, List.getElem_cons_zero, List.setIfInBounds_toArray, List.set_cons_zero, List.set_cons_succ])
    refine wpAnyH_take (i := 4) (v := ?_) (by rfl) (by kernel_rfl) (by kernel_rfl) (by kernel_rfl) (fun _ _ _ h => h) (Or.inl ⟨by kernel_rfl, ?_⟩) (by assumption) ?_; rotate_left 1; (focus (intro w hSw; (try dsimp only at hSw); simp only [List.getElem_toArray, List.getElem_cons_succ, List.getElem_cons_zero]; all_goals go_simp; all_goals (try with_reducible rfl))); (try simp only [Act.put, List.getElem_toArray, List.getElem_cons_succ, List.getElem_cons_zero, List.setIfInBounds_toArray, List.set_cons_zero, List.set_cons_succ])
    refine wpAnyH_take (i := 5) (v := ?_) (by rfl) (by kernel_rfl) (by kernel_rfl) (by kernel_rfl) (fun _ _ _ h => h) (Or.inl ⟨by kernel_rfl, ?_⟩) (by assumption) ?_; rotate_left 1; (focus (intro w hSw; (try dsimp only at hSw); simp only [List.getElem_toArray, List.getElem_cons_succ, List.getElem_cons_zero]; all_goals go_simp; all_goals (try with_reducible rfl))); (try simp only [Act.put, List.getElem_toArray, List.getElem_cons_succ, List.getElem_cons_zero, List.setIfInBounds_toArray, List.set_cons_zero, List.set_cons_succ])
    refine wpAnyH_take (i := 6) (v := ?_) (by rfl) (by kernel_rfl) (by kernel_rfl) (by kernel_rfl) (fun _ _ _ h => h) (Or.inl ⟨by kernel_rfl, ?_⟩) (by assumption) ?_; rotate_left 1; (focus (intro w hSw; (try dsimp only at hSw); simp only [List.getElem_toArray, List.getElem_cons_succ, List.getElem_cons_zero]; all_goals go_simp; all_goals (try with_reducible rfl))); (try simp only [Act.put, List.getElem_toArray, List.getElem_cons_succ, List.getElem_cons_zero, List.setIfInBounds_toArray, List.set_cons_zero, List.set_cons_succ])
    refine wpAnyH_take (i := 7) (v := ?_) (by rfl) (by kernel_rfl) (by kernel_rfl) (by kernel_rfl) (fun _ _ _ h => h) (Or.inl ⟨by kernel_rfl, ?_⟩) (by assumption) ?_; rotate_left 1; (focus (intro w hSw; (try dsimp only at hSw); simp only [List.getElem_toArray, List.getElem_cons_succ, List.getElem_cons_zero]; all_goals go_simp; all_goals (try with_reducible rfl))); (try simp only [Act.put, List.getElem_toArray, List.getElem_cons_succ, List.getElem_cons_zero, List.setIfInBounds_toArray, List.set_cons_zero, List.set_cons_succ])
    refine wpAnyH_take (i := 8) (v := ?_) (by rfl) (by kernel_rfl) (by kernel_rfl) (by kernel_rfl) (fun _ _ _ h => h) (Or.inl ⟨by kernel_rfl, ?_⟩) (by assumption) ?_; rotate_left 1; (focus (intro w hSw; (try dsimp only at hSw); simp only [List.getElem_toArray, List.getElem_cons_succ, List.getElem_cons_zero]; all_goals go_simp; all_goals (try with_reducible rfl))); (try simp only [Act.put, List.getElem_toArray, List.getElem_cons_succ, List.getElem_cons_zero, List.setIfInBounds_toArray, List.set_cons_zero, List.set_cons_succ])
    refine wpAnyH_take (i := 9) (v := ?_) (by rfl) (by kernel_rfl) (by kernel_rfl) (by kernel_rfl) (fun _ _ _ h => h) (Or.inl ⟨by kernel_rfl, ?_⟩) (by assumption) ?_; rotate_left 1; (focus (intro w hSw; (try dsimp only at hSw); simp only [List.getElem_toArray, List.getElem_cons_succ, List.getElem_cons_zero]; all_goals go_simp; all_goals (try with_reducible rfl))); (try simp only [Act.put, List.getElem_toArray, List.getElem_cons_succ, List.getElem_cons_zero, List.setIfInBounds_toArray, List.set_cons_zero, List.set_cons_succ])
    refine wpAnyH_take (i := 10) (v := ?_) (by rfl) (by kernel_rfl) (by kernel_rfl) (by kernel_rfl) (fun _ _ _ h => h) (Or.inl ⟨by kernel_rfl, ?_⟩) (by assumption) ?_; rotate_left 1; (focus (intro w hSw; (try dsimp only at hSw); simp only [List.getElem_toArray, List.getElem_cons_succ, List.getElem_cons_zero]; all_goals go_simp; all_goals (try with_reducible rfl))); (try simp only [Act.put, List.getElem_toArray, List.getElem_cons_succ, List.getElem_cons_zero, List.setIfInBounds_toArray, List.set_cons_zero, List.set_cons_succ])
    refine wpAnyH_ready (rs := [11]) (by kernel_rfl) (by simp) ?_; refine AllReadyH.cons (by rfl) (fun K hK => ?_) AllReadyH.nil; rw [if_pos (by kernel_rfl)]; simp only [List.getElem_toArray, List.getElem_cons_succ, List.getElem_cons_zero]
    go_wp2_with (first
      | (go_at_call 19; (with_reducible refine (alive_is k1 k2 t HT _ HW2.out.dd.pl.ar).mono ?_); rintro e w3 ⟨rfl, rfl⟩))
    refine hK.out _ _ (by assumption) (fun hHeld => ?_)
    clear hK K
    (try simp only [Act.put, List.getElem_toArray, List.getElem_cons_succ, List.getElem_cons_zero, List.setIfInBounds_toArray, List.set_cons_zero, List.set_cons_succ])
    refine wpAnyH_take (i := 12) (v := ?_) (by rfl) (by kernel_rfl) (by kernel_rfl) (by kernel_rfl) (fun _ _ _ h => h) (Or.inl ⟨by kernel_rfl, ?_⟩) (by assumption) ?_; rotate_left 1; (focus (intro w hSw; (try dsimp only at hSw); simp only [List.getElem_toArray, List.getElem_cons_succ, List.getElem_cons_zero]; all_goals go_simp; all_goals (try with_reducible rfl))); (try simp only [Act.put, List.getElem_toArray, List.getElem_cons_succ, List.getElem_cons_zero, List.setIfInBounds_toArray, List.set_cons_zero, List.set_cons_succ])
    refine wpAnyH_done (by kernel_rfl) ?_ _
    refine NoPanic.normal ?_
    go_wp2_with fail
    go_ret
    exact ⟨rfl, HB2.out.drew⟩
  · have t4 : (k0 == 4) = false := by simpa using h4
    have HT : Hid ((if k0 = 2 then (thereB L.a.n D.nt k1 && (D.nv k1.toNat == k2)) else if k0 = 3 then (thereB L.b.n D.pt k1 && (D.pv k1.toNat == k2)) else false) = t) := Lib.hid (by have := ht.out; unfold liveK at this; rwa [if_neg h4] at this)
    clear ht h4
    go_enter Tryd.func48, Tryd.ntmps48
    go_upto_region 3 with fail
    generalize hw2 : World.alloc w _ = w2
    have HB2 : Hid (Below w.heap.size w w2) := Lib.hid (by rw [← hw2]; exact (Below.refl _ _).alloc (Nat.le_refl _) _)
    obtain ⟨kb, hkb⟩ : ∃ kb, kb = w.heap.size := ⟨_, rfl⟩
    have HK2 : Hid (KeyC w2 kb k0 k1 k2 k3 k4) := Lib.hid (by rw [← hw2, hkb]; exact KeyC.new w k0 k1 k2 k3 k4 _)
    rw [← hkb]
    clear hw2 hkb
    have HW2 := Lib.hid ((H.out.below HB2.out).below (Below.refl _ _).drew)
    have HKd := Lib.hid (HK2.out.below (Below.refl _ _).drew)
    have hS0 : (World.cell? w2.drew ⟨L.P, 1, none⟩ = some (.pointer (some ⟨L.mb, 0, none⟩)) ∧ World.cell? w2.drew ⟨L.mb, 0, none⟩ = some (.pointer (some ⟨L.S, 0, none⟩)) ∧ (World.cell? w2.drew ⟨kb, 0, none⟩ = some (.int .i64 k0) ∧ World.cell? w2.drew ⟨kb, 1, none⟩ = some (.int .i64 k1) ∧ World.cell? w2.drew ⟨kb, 2, none⟩ = some (.int .i64 k2) ∧ World.cell? w2.drew ⟨kb, 3, none⟩ = some (.int .i64 k3) ∧ World.cell? w2.drew ⟨kb, 4, none⟩ = some (.int .u32 k4))) := ⟨HW2.out.kk.f1, HW2.out.mm.m0, HKd.out.k5⟩
    refine wp_region_noPanic ?_
    refine wp_region_held_drew (S := fun w' => (World.cell? w' ⟨L.P, 1, none⟩ = some (.pointer (some ⟨L.mb, 0, none⟩)) ∧ World.cell? w' ⟨L.mb, 0, none⟩ = some (.pointer (some ⟨L.S, 0, none⟩)) ∧ (World.cell? w' ⟨kb, 0, none⟩ = some (.int .i64 k0) ∧ World.cell? w' ⟨kb, 1, none⟩ = some (.int .i64 k1) ∧ World.cell? w' ⟨kb, 2, none⟩ = some (.int .i64 k2) ∧ World.cell? w' ⟨kb, 3, none⟩ = some (.int .i64 k3) ∧ World.cell? w' ⟨kb, 4, none⟩ = some (.int .u32 k4)))) (by kernel_rfl) hS0 (fun hHeld => ?_)
    clear hS0
    refine wpAnyH_take (i := 0) (v := ?_) (by rfl) (by kernel_rfl) (by kernel_rfl) (by kernel_rfl) (fun _ _ _ h => h) (Or.inl ⟨by kernel_rfl, ?_⟩) (by assumption) ?_; rotate_left 1; (focus (intro w hSw; (try dsimp only at hSw); simp only [List.getElem_toArray, List.getElem_cons_succ, List.getElem_cons_zero]; all_goals go_simp; all_goals (try with_reducible rfl))); (try simp only [Act.put, List.getElem_toArray, List.getElem_cons_succ, List.getElem_cons_zero, List.setIfInBounds_toArray, List.set_cons_zero, List.set_cons_succ])
    refine wpAnyH_take (i := 1) (v := ?_) (by rfl) (by kernel_rfl) (by kernel_rfl) (by kernel_rfl) (fun _ _ _ h => h) (Or.inl ⟨by kernel_rfl, ?_⟩) (by assumption) ?_; rotate_left 1; (focus (intro w hSw; (try dsimp only at hSw); simp only [List.getElem_toArray, List.getElem_cons_succ, List.getElem_cons_zero]; all_goals go_simp; all_goals (try with_reducible rfl))); (try simp only [Act.put, List.getElem_toArray, List.getElem_cons_succ, List.getElem_cons_zero, List.setIfInBounds_toArray, List.set_cons_zero, List.set_cons_succ])
    refine wpAnyH_take (i := 2) (v := ?_) (by rfl) (by kernel_rfl) (by kernel_rfl) (by kernel_rfl) (fun _ _ _ h => h) (Or.inl ⟨by kernel_rfl, ?_⟩) (by assumption) ?_; rotate_left 1; (focus (intro w hSw; (try dsimp only at hSw); simp only [List.getElem_toArray, List.getElem_cons_succ, List.getElem_cons_zero]; all_goals go_simp; all_goals (try with_reducible rfl))); (try simp only [Act.put, List.getElem_toArray, List.getElem_cons_succ, List.getElem_cons_zero, List.setIfInBounds_toArray, List.set_cons_zero, List.set_cons_succ])
    refine wpAnyH_take (i := 3) (v := ?_) (by rfl) (by kernel_rfl) (by kernel_rfl) (by kernel_rfl) (fun _ _ _ h => h) (Or.inl ⟨by kernel_rfl, ?_⟩) (by assumption) ?_; rotate_left 1; (focus (intro w hSw; (try dsimp only at hSw); simp only [List.getElem_toArray, List.getElem_cons_succ, List.getElem_cons_zero]; all_goals go_simp; all_goals (try with_reducible rfl))); (try simp only [Act.put, List.getElem_toArray, List.getElem_cons_succ, List.getElem_cons_zero, List.setIfInBounds_toArray, List.set_cons_zero, List.set_cons_succ])
    refine wpAnyH_take (i := 4) (v := ?_) (by rfl) (by kernel_rfl) (by kernel_rfl) (by kernel_rfl) (fun _ _ _ h => h) (Or.inl ⟨by kernel_rfl, ?_⟩) (by assumption) ?_; rotate_left 1; (focus (intro w hSw; (try dsimp only at hSw); simp only [List.getElem_toArray, List.getElem_cons_succ, List.getElem_cons_zero]; all_goals go_simp; all_goals (try with_reducible rfl))); (try simp only [Act.put, List.getElem_toArray, List.getElem_cons_succ, List.getElem_cons_zero, List.setIfInBounds_toArray, List.set_cons_zero, List.set_cons_succ])
    refine wpAnyH_take (i := 5) (v := ?_) (by rfl) (by kernel_rfl) (by kernel_rfl) (by kernel_rfl) (fun _ _ _ h => h) (Or.inl ⟨by kernel_rfl, ?_⟩) (by assumption) ?_; rotate_left 1; (focus (intro w hSw; (try dsimp only at hSw); simp only [List.getElem_toArray, List.getElem_cons_succ, List.getElem_cons_zero]; all_goals go_simp; all_goals (try with_reducible rfl))); (try simp only [Act.put, List.getElem_toArray, List.getElem_cons_succ, List.getElem_cons_zero, List.setIfInBounds_toArray, List.set_cons_zero, List.set_cons_succ])
    refine wpAnyH_take (i := 6) (v := ?_) (by rfl) (by kernel_rfl) (by kernel_rfl) (by kernel_rfl) (fun _ _ _ h => h) (Or.inl ⟨by kernel_rfl, ?_⟩) (by assumption) ?_; rotate_left 1; (focus (intro w hSw; (try dsimp only at hSw); simp only [List.getElem_toArray, List.getElem_cons_succ, List.getElem_cons_zero]; all_goals go_simp; all_goals (try with_reducible rfl))); (try simp only [Act.put, List.getElem_toArray, List.getElem_cons_succ, List.getElem_cons_zero, List.setIfInBounds_toArray, List.set_cons_zero, List.set_cons_succ])
    refine wpAnyH_take (i := 7) (v := ?_) (by rfl) (by kernel_rfl) (by kernel_rfl) (by kernel_rfl) (fun _ _ _ h => h) (Or.inl ⟨by kernel_rfl, ?_⟩) (by assumption) ?_; rotate_left 1; (focus (intro w hSw; (try dsimp only at hSw); simp only [List.getElem_toArray, List.getElem_cons_succ, List.getElem_cons_zero]; all_goals go_simp; all_goals (try with_reducible rfl))); (try simp only [Act.put, List.getElem_toArray, List.getElem_cons_succ, List.getElem_cons_zero, List.setIfInBounds_toArray, List.set_cons_zero, List.set_cons_succ])
    refine wpAnyH_ready (rs := [8]) (by kernel_rfl) (by simp) ?_; refine AllReadyH.cons (by rfl) (fun K hK => ?_) AllReadyH.nil; rw [if_pos (by kernel_rfl)]; simp only [List.getElem_toArray, List.getElem_cons_succ, List.getElem_cons_zero]
    go_wp2_with (first
      | (go_at_call 18; (with_reducible refine (slive_is k0 k1 k2 k3 k4 t HT _ HW2.out.mm.sv.st).mono ?_); rintro e w3 ⟨rfl, hb⟩; have HW3 := Lib.hid (HW2.out.below hb); have HK3 := Lib.hid (HKd.out.below hb); have HB3 := Lib.hid hb; clear hb))
    refine hK.out _ _ ⟨HW3.out.kk.f1, HW3.out.mm.m0, HK3.out.k5⟩ (fun hHeld => ?_)
    clear hK K
    (try simp only [Act.put, List.getElem_toArray, List.getElem_cons_succ, List.getElem_cons_zero, List.setIfInBounds_toArray, List.set_cons_zero, List.set_cons_succ])
    refine wpAnyH_take (i := 9) (v := ?_) (by rfl) (by kernel_rfl) (by kernel_rfl) (by kernel_rfl) (fun _ _ _ h => h) (Or.inl ⟨by kernel_rfl, ?_⟩) (by assumption) ?_; rotate_left 1; (focus (intro w hSw; (try dsimp only at hSw); simp only [List.getElem_toArray, List.getElem_cons_succ, List.getElem_cons_zero]; all_goals go_simp; all_goals (try with_reducible rfl))); (try simp only [Act.put, List.getElem_toArray, List.getElem_cons_succ, List.getElem_cons_zero, List.setIfInBounds_toArray, List.set_cons_zero, List.set_cons_succ])
    refine wpAnyH_done (by kernel_rfl) ?_ _
    refine NoPanic.normal ?_
    go_wp2_with fail
    go_ret
    exact ⟨rfl, HB2.out.drew.trans (HB3.out.mono (by simpa using HB2.out.size))⟩
theorem btitles_is {w0 : World} {L : BLoc} {D : BSt} (k0 : Int) (G : Nat) (hk : k0 = 2 ∧ G = L.G1 ∨ k0 = 3 ∧ G = L.G2 ∨ ¬ k0 = 2 ∧ ¬ k0 = 3 ∧ G = L.G3) (w : World) (h : BW w0 w L D) :
    Calls Tryd.prog 49 #[.pointer (some ⟨L.P, 0, none⟩), .int .i64 k0] w fun e w' => e = .returned (.slice (some ⟨G, 0, none⟩) 256 256) ∧ w = w' := by
  have f4 := h.kk.f4
  have f5 := h.kk.f5
  have f6 := h.kk.f6
  clear h
  rcases hk with ⟨rfl, rfl⟩ | ⟨rfl, rfl⟩ | ⟨h2, h3, rfl⟩
  · go_enter Tryd.func49, Tryd.ntmps49
    go_wp2_with fail
    go_ret
    exact ⟨rfl, rfl⟩
  · go_enter Tryd.func49, Tryd.ntmps49
    go_wp2_with fail
    go_ret
    exact ⟨rfl, rfl⟩
  · have t2 : (k0 == 2) = false := by simpa using h2
    have t3 : (k0 == 3) = false := by simpa using h3
    clear h2 h3
    go_enter Tryd.func49, Tryd.ntmps49
    go_wp2_with fail
    go_ret
    exact ⟨rfl, rfl⟩
end Go.Proofs.YtagiabcmbihoaaaDoor
namespace Go.Proofs.YtagiabcmbihoaaaDoor
open Go.ChangeShapes Go.WideShapes Go.ChangeAt Go.RowKit
set_option linter.unusedVariables false
set_option linter.unusedSimpArgs false
/-- A title among the titles of a kind. -/
structure TiAt (w : World) (L : BLoc) (k0 : Int) (G j : Nat) (x y : Int) : Prop where
  hk : k0 = 2 ∧ G = L.G1 ∨ k0 = 3 ∧ G = L.G2 ∨ ¬ k0 = 2 ∧ ¬ k0 = 3 ∧ G = L.G3
  lt : G < w.heap.size
  c0 : w.cell? ⟨G, j * 2, none⟩ = some (.int .i64 x)
  c1 : w.cell? ⟨G, j * 2 + 1, none⟩ = some (.int .i64 y)
theorem TiAt.below {w w' : World} {L : BLoc} {k0 : Int} {G j : Nat} {x y : Int} (h : TiAt w L k0 G j x y) (hb : Below w.heap.size w w') : TiAt w' L k0 G j x y :=
  ⟨h.hk, Nat.lt_of_lt_of_le h.lt hb.size, (hb.cell (p := ⟨G, j * 2, none⟩) h.lt).trans h.c0, (hb.cell (p := ⟨G, j * 2 + 1, none⟩) h.lt).trans h.c1⟩
set_option maxRecDepth 100000 in
set_option maxHeartbeats 2000000 in
theorem bowner_live {w0 : World} {L : BLoc} {D : BSt} (k0 : Int) (k1 : Nat) (k2 k3 k4 : Int) (G q : Nat) (hj2 : k1 < 256) (hq : q < D.nb) (ht : Hid (liveK L D k0 k1 k2 = true)) (w : World) (h : BW w0 w L D) (hT : TiAt w L k0 G k1 q k2) :
    Calls Tryd.prog 20 #[.pointer (some ⟨L.P, 0, none⟩), (Value.agg #[.int .i64 k0, .int .i64 k1, .int .i64 k2, .int .i64 k3, .int .u32 k4])] w fun e w' => e = .returned (.int .i64 (q : Int)) ∧ Below w.heap.size w w' := by
  have H := Lib.hid h
  have HT := Lib.hid hT
  have HKk := Lib.hid hT.hk
  have hnb := h.nn
  have hn := h.n256
  have j0 : (0 : Int) ≤ k1 := by omega
  have j1 : (k1 : Int) < 256 := by omega
  clear h hT
  go_enter Tryd.func20, Tryd.ntmps20
  go_upto_region 1 with fail
  generalize hw2 : World.alloc w _ = w2
  have HB2 : Hid (Below w.heap.size w w2) := Lib.hid (by rw [← hw2]; exact (Below.refl _ _).alloc (Nat.le_refl _) _)
  obtain ⟨kb, hkb⟩ : ∃ kb, kb = w.heap.size := ⟨_, rfl⟩
  have HK2 : Hid (KeyC w2 kb (k0) (k1 : Int) k2 k3 k4) := Lib.hid (by rw [← hw2, hkb]; exact KeyC.new w k0 (k1 : Int) k2 k3 k4 _)
  rw [← hkb]
  clear hw2 hkb
  have HW2 := Lib.hid (H.out.below HB2.out)
  have q0 := HK2.out.c0
  have q1 := HK2.out.c1
  have q2 := HK2.out.c2
  have q3 := HK2.out.c3
  have q4 := HK2.out.c4
  go_upto_region 3 with (first
    | (go_at_call 48; (with_reducible refine (blive_is k0 (k1 : Int) k2 k3 k4 true ht _ HW2.out).mono ?_); rintro e w3 ⟨rfl, hb⟩; have HB3 := Lib.hid (HB2.out.trans (hb.mono HB2.out.size)); have HK3 := Lib.hid (HK2.out.below hb); have HW3 := Lib.hid (HW2.out.below hb); clear hb q0 q1 q2 q3 q4))
  obtain ⟨wD, hwD⟩ : ∃ wD, wD = w3.drew := ⟨_, rfl⟩
  have HBD : Hid (Below w3.heap.size w3 wD) := Lib.hid (by rw [hwD]; exact (Below.refl _ _).drew)
  have HKD := Lib.hid (HK3.out.below HBD.out)
  have HTD := Lib.hid (HT.out.below (HB3.out.trans (HBD.out.mono HB3.out.size)))
  have HWD := Lib.hid (HW3.out.below HBD.out)
  have HSO : Hid (∀ W, Below wD.heap.size wD W → ((World.cell? W ⟨kb, 0, none⟩ = some (.int .i64 k0) ∧ World.cell? W ⟨kb, 1, none⟩ = some (.int .i64 k1) ∧ World.cell? W ⟨kb, 2, none⟩ = some (.int .i64 k2) ∧ World.cell? W ⟨kb, 3, none⟩ = some (.int .i64 k3) ∧ World.cell? W ⟨kb, 4, none⟩ = some (.int .u32 k4)) ∧ World.cell? W ⟨G, k1 * 2, none⟩ = some (.int .i64 (q : Int)) ∧ World.cell? W ⟨G, k1 * 2 + 1, none⟩ = some (.int .i64 k2))) := Lib.hid (fun W hb => ⟨(HKD.out.below hb).k5, (HTD.out.below hb).c0, (HTD.out.below hb).c1⟩)
  refine wp_region_noPanic ?_
  refine wp_region_held_drew (S := fun w' => ((World.cell? w' ⟨kb, 0, none⟩ = some (.int .i64 k0) ∧ World.cell? w' ⟨kb, 1, none⟩ = some (.int .i64 k1) ∧ World.cell? w' ⟨kb, 2, none⟩ = some (.int .i64 k2) ∧ World.cell? w' ⟨kb, 3, none⟩ = some (.int .i64 k3) ∧ World.cell? w' ⟨kb, 4, none⟩ = some (.int .u32 k4)) ∧ World.cell? w' ⟨G, k1 * 2, none⟩ = some (.int .i64 (q : Int)) ∧ World.cell? w' ⟨G, k1 * 2 + 1, none⟩ = some (.int .i64 k2))) (by kernel_rfl) (by rw [← hwD]; exact HSO.out _ (Below.refl _ _)) (fun hHeld => ?_)
  rw [← hwD] at hHeld ⊢
  clear hwD
  refine wpAnyH_take (i := 0) (v := ?_) (by rfl) (by kernel_rfl) (by kernel_rfl) (by kernel_rfl) (fun _ _ _ h => h) (Or.inl ⟨by kernel_rfl, ?_⟩) (by assumption) ?_; rotate_left 1; (focus (intro w hSw; (try dsimp only at hSw); simp only [List.getElem_toArray, List.getElem_cons_succ, List.getElem_cons_zero]; all_goals go_simp; all_goals (try with_reducible rfl))); (try simp only [Act.put, List.getElem_toArray, List.getElem_cons_succ, List.getElem_cons_zero, List.setIfInBounds_toArray, List.set_cons_zero, List.set_cons_succ])
  refine wpAnyH_take (i := 1) (v := ?_) (by rfl) (by kernel_rfl) (by kernel_rfl) (by kernel_rfl) (fun _ _ _ h => h) (Or.inl ⟨by kernel_rfl, ?_⟩) (by assumption) ?_; rotate_left 1; (focus (intro w hSw; (try dsimp only at hSw); simp only [List.getElem_toArray, List.getElem_cons_succ, List.getElem_cons_zero]; all_goals go_simp; all_goals (try with_reducible rfl))); (try simp only [Act.put, List.getElem_toArray, List.getElem_cons_succ, List.getElem_cons_zero, List.setIfInBounds_toArray, List.set_cons_zero, List.set_cons_succ])
  refine wpAnyH_take (i := 2) (v := ?_) (by rfl) (by kernel_rfl) (by kernel_rfl) (by kernel_rfl) (fun _ _ _ h => h) (Or.inl ⟨by kernel_rfl, ?_⟩) (by assumption) ?_; rotate_left 1; (focus (intro w hSw; (try dsimp only at hSw); simp only [List.getElem_toArray, List.getElem_cons_succ, List.getElem_cons_zero]; all_goals go_simp; all_goals (try with_reducible rfl))); (try simp only [Act.put, List.getElem_toArray, List.getElem_cons_succ, List.getElem_cons_zero, List.setIfInBounds_toArray, List.set_cons_zero, List.set_cons_succ])
  refine wpAnyH_take (i := 4) (v := ?_) (by rfl) (by kernel_rfl) (by kernel_rfl) (by kernel_rfl) (fun _ _ _ h => h) (Or.inl ⟨by kernel_rfl, ?_⟩) (by assumption) ?_; rotate_left 1; (focus (intro w hSw; (try dsimp only at hSw); simp only [List.getElem_toArray, List.getElem_cons_succ, List.getElem_cons_zero]; all_goals go_simp; all_goals (try with_reducible rfl))); (try simp only [Act.put, List.getElem_toArray, List.getElem_cons_succ, List.getElem_cons_zero, List.setIfInBounds_toArray, List.set_cons_zero, List.set_cons_succ])
  refine wpAnyH_take (i := 5) (v := ?_) (by rfl) (by kernel_rfl) (by kernel_rfl) (by kernel_rfl) (fun _ _ _ h => h) (Or.inl ⟨by kernel_rfl, ?_⟩) (by assumption) ?_; rotate_left 1; (focus (intro w hSw; (try dsimp only at hSw); simp only [List.getElem_toArray, List.getElem_cons_succ, List.getElem_cons_zero]; all_goals go_simp; all_goals (try with_reducible rfl))); (try simp only [Act.put, List.getElem_toArray, List.getElem_cons_succ, List.getElem_cons_zero, List.setIfInBounds_toArray, List.set_cons_zero, List.set_cons_succ])
  refine wpAnyH_ready (rs := [3, 8]) (by kernel_rfl) (by simp) ?_
  refine AllReadyH.cons (by rfl) (fun K' hK => ?_) (AllReadyH.cons (by rfl) (fun K' hK => ?_) AllReadyH.nil)
  · rw [if_pos (by kernel_rfl)]; simp only [List.getElem_toArray, List.getElem_cons_succ, List.getElem_cons_zero]
    go_wp2_with (first
      | (go_at_call 49; (with_reducible refine (btitles_is k0 G HKk.out _ HWD.out).mono ?_); rintro e w5 ⟨rfl, rfl⟩))
    refine hK.out _ _ (HSO.out _ (Below.refl _ _)) (fun hHeld => ?_); clear hK; (try simp only [Act.put, List.getElem_toArray, List.getElem_cons_succ, List.getElem_cons_zero, List.setIfInBounds_toArray, List.set_cons_zero, List.set_cons_succ])
    refine wpAnyH_take (i := 6) (v := ?_) (by rfl) (by kernel_rfl) (by kernel_rfl) (by kernel_rfl) (fun _ _ _ h => h) (Or.inl ⟨by kernel_rfl, ?_⟩) (by assumption) ?_; rotate_left 1; (focus (intro w hSw; (try dsimp only at hSw); simp only [List.getElem_toArray, List.getElem_cons_succ, List.getElem_cons_zero]; all_goals go_simp; all_goals (try with_reducible rfl))); (try simp only [Act.put, List.getElem_toArray, List.getElem_cons_succ, List.getElem_cons_zero, List.setIfInBounds_toArray, List.set_cons_zero, List.set_cons_succ])
    refine wpAnyH_take (i := 7) (v := ?_) (by rfl) (by kernel_rfl) (by kernel_rfl) (by kernel_rfl) (fun _ _ _ h => h) (Or.inl ⟨by kernel_rfl, ?_⟩) (by assumption) ?_; rotate_left 1; (focus (intro w hSw; (try dsimp only at hSw); simp only [List.getElem_toArray, List.getElem_cons_succ, List.getElem_cons_zero]; all_goals go_simp; all_goals (try with_reducible rfl))); (try simp only [Act.put, List.getElem_toArray, List.getElem_cons_succ, List.getElem_cons_zero, List.setIfInBounds_toArray, List.set_cons_zero, List.set_cons_succ])
    refine wpAnyH_ready (rs := [8]) (by kernel_rfl) (by simp) ?_; refine AllReadyH.cons (by rfl) (fun K hK => ?_) AllReadyH.nil; rw [if_pos (by kernel_rfl)]; simp only [List.getElem_toArray, List.getElem_cons_succ, List.getElem_cons_zero]
    go_wp2_with fail
    refine hK.out _ _ (HSO.out _ ((Below.refl _ _).alloc (Nat.le_refl _) _)) (fun hHeld => ?_); clear hK; (try simp only [Act.put, List.getElem_toArray, List.getElem_cons_succ, List.getElem_cons_zero, List.setIfInBounds_toArray, List.set_cons_zero, List.set_cons_succ])
    refine wpAnyH_ready (rs := [9]) (by kernel_rfl) (by simp) ?_; refine AllReadyH.cons (by rfl) (fun K hK => ?_) AllReadyH.nil; rw [if_pos (by kernel_rfl)]; simp only [List.getElem_toArray, List.getElem_cons_succ, List.getElem_cons_zero]
    go_wp2_with fail
    refine hK.out _ _ (HSO.out _ ((Below.refl _ _).alloc (Nat.le_refl _) _)) (fun hHeld => ?_); clear hK; (try simp only [Act.put, List.getElem_toArray, List.getElem_cons_succ, List.getElem_cons_zero, List.setIfInBounds_toArray, List.set_cons_zero, List.set_cons_succ])
    clear hHeld
    refine wpAnyH_done (by kernel_rfl) ?_ _; refine NoPanic.normal ?_
    generalize hw7 : World.alloc wD _ = w7
    have HB7 : Hid (Below wD.heap.size wD w7) := Lib.hid (by rw [← hw7]; exact (Below.refl _ _).alloc (Nat.le_refl _) _); have HC7 : Hid (w7.cell? ⟨wD.heap.size, 0, none⟩ = some (.int .i64 (q : Int)) ∧ w7.cell? ⟨wD.heap.size, 1, none⟩ = some (.int .i64 k2)) := Lib.hid (by rw [← hw7]; simp); clear hw7; have HK7 := Lib.hid (HKD.out.below HB7.out); have HW7 := Lib.hid ((HWD.out.below HB7.out).below (Below.refl _ _).drew); have HA9 := Lib.hid (fun n => ((HWD.out.below HB7.out).below (below_drewN (Below.refl _ _) n)).kk.ar); obtain ⟨c0, c1⟩ := HC7.out; have q2 := HK7.out.c2; have f0 := HW7.out.kk.f0; have f9 := (HWD.out.below HB7.out).kk.f0; clear HC7; have hk2 : (k2 != k2) = false := (by simp); go_wp2_with fail; go_quiet ((go_at_call 17; exact kquiet_left (athere_in q (by omega) true (Lib.hid (thN_at hq)) _ (HA9.out _)))); go_wp2_with fail; go_ret; exact ⟨rfl, (HB3.out.trans (HBD.out.mono HB3.out.size)).trans ((below_drewN HB7.out _).mono (Nat.le_trans HB3.out.size HBD.out.size))⟩
  · rw [if_pos (by kernel_rfl)]; simp only [List.getElem_toArray, List.getElem_cons_succ, List.getElem_cons_zero]
    go_wp2_with fail
    refine hK.out _ _ (HSO.out _ ((Below.refl _ _).alloc (Nat.le_refl _) _)) (fun hHeld => ?_); clear hK; (try simp only [Act.put, List.getElem_toArray, List.getElem_cons_succ, List.getElem_cons_zero, List.setIfInBounds_toArray, List.set_cons_zero, List.set_cons_succ])
    refine wpAnyH_ready (rs := [3]) (by kernel_rfl) (by simp) ?_; refine AllReadyH.cons (by rfl) (fun K hK => ?_) AllReadyH.nil; rw [if_pos (by kernel_rfl)]; simp only [List.getElem_toArray, List.getElem_cons_succ, List.getElem_cons_zero]
    go_wp2_with (first
      | (go_at_call 49; (with_reducible refine (btitles_is k0 G HKk.out _ (HWD.out.below ((Below.refl _ _).alloc (Nat.le_refl _) _))).mono ?_); rintro e w5 ⟨rfl, rfl⟩))
    refine hK.out _ _ (HSO.out _ ((Below.refl _ _).alloc (Nat.le_refl _) _)) (fun hHeld => ?_); clear hK; (try simp only [Act.put, List.getElem_toArray, List.getElem_cons_succ, List.getElem_cons_zero, List.setIfInBounds_toArray, List.set_cons_zero, List.set_cons_succ])
    refine wpAnyH_take (i := 6) (v := ?_) (by rfl) (by kernel_rfl) (by kernel_rfl) (by kernel_rfl) (fun _ _ _ h => h) (Or.inl ⟨by kernel_rfl, ?_⟩) (by assumption) ?_; rotate_left 1; (focus (intro w hSw; (try dsimp only at hSw); simp only [List.getElem_toArray, List.getElem_cons_succ, List.getElem_cons_zero]; all_goals go_simp; all_goals (try with_reducible rfl))); (try simp only [Act.put, List.getElem_toArray, List.getElem_cons_succ, List.getElem_cons_zero, List.setIfInBounds_toArray, List.set_cons_zero, List.set_cons_succ])
    refine wpAnyH_take (i := 7) (v := ?_) (by rfl) (by kernel_rfl) (by kernel_rfl) (by kernel_rfl) (fun _ _ _ h => h) (Or.inl ⟨by kernel_rfl, ?_⟩) (by assumption) ?_; rotate_left 1; (focus (intro w hSw; (try dsimp only at hSw); simp only [List.getElem_toArray, List.getElem_cons_succ, List.getElem_cons_zero]; all_goals go_simp; all_goals (try with_reducible rfl))); (try simp only [Act.put, List.getElem_toArray, List.getElem_cons_succ, List.getElem_cons_zero, List.setIfInBounds_toArray, List.set_cons_zero, List.set_cons_succ])
    refine wpAnyH_ready (rs := [9]) (by kernel_rfl) (by simp) ?_; refine AllReadyH.cons (by rfl) (fun K hK => ?_) AllReadyH.nil; rw [if_pos (by kernel_rfl)]; simp only [List.getElem_toArray, List.getElem_cons_succ, List.getElem_cons_zero]
    go_wp2_with fail
    refine hK.out _ _ (HSO.out _ ((Below.refl _ _).alloc (Nat.le_refl _) _)) (fun hHeld => ?_); clear hK; (try simp only [Act.put, List.getElem_toArray, List.getElem_cons_succ, List.getElem_cons_zero, List.setIfInBounds_toArray, List.set_cons_zero, List.set_cons_succ])
    clear hHeld
    refine wpAnyH_done (by kernel_rfl) ?_ _; refine NoPanic.normal ?_
    generalize hw7 : World.alloc wD _ = w7
    have HB7 : Hid (Below wD.heap.size wD w7) := Lib.hid (by rw [← hw7]; exact (Below.refl _ _).alloc (Nat.le_refl _) _); have HC7 : Hid (w7.cell? ⟨wD.heap.size, 0, none⟩ = some (.int .i64 (q : Int)) ∧ w7.cell? ⟨wD.heap.size, 1, none⟩ = some (.int .i64 k2)) := Lib.hid (by rw [← hw7]; simp); clear hw7; have HK7 := Lib.hid (HKD.out.below HB7.out); have HW7 := Lib.hid ((HWD.out.below HB7.out).below (Below.refl _ _).drew); have HA9 := Lib.hid (fun n => ((HWD.out.below HB7.out).below (below_drewN (Below.refl _ _) n)).kk.ar); obtain ⟨c0, c1⟩ := HC7.out; have q2 := HK7.out.c2; have f0 := HW7.out.kk.f0; have f9 := (HWD.out.below HB7.out).kk.f0; clear HC7; have hk2 : (k2 != k2) = false := (by simp); go_wp2_with fail; go_quiet ((go_at_call 17; exact kquiet_left (athere_in q (by omega) true (Lib.hid (thN_at hq)) _ (HA9.out _)))); go_wp2_with fail; go_ret; exact ⟨rfl, (HB3.out.trans (HBD.out.mono HB3.out.size)).trans ((below_drewN HB7.out _).mono (Nat.le_trans HB3.out.size HBD.out.size))⟩
end Go.Proofs.YtagiabcmbihoaaaDoor
