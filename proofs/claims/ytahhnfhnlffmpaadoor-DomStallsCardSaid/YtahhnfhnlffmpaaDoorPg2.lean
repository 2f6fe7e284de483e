/-
  package page: New, has, Read, Make.
-/
import Derived.Test.YtahhnfhnlffmpaaDoorPg
namespace Go.Proofs.YtahhnfhnlffmpaaDoor
open Go.ChangeShapes Go.WideShapes Go.ChangeAt Go.RowKit
set_option linter.unusedVariables false
theorem flat_made (n : Nat) : (madeCells (Array.replicate 32 (Value.int .u32 0)) (n * 32)).toList = flat (fun _ _ => 0) n := by
  apply List.ext_getElem?
  intro j
  by_cases hj : j < n * 32
  · have h : j % 32 < 32 := Nat.mod_lt _ (by decide)
    simp [madeCells, flat, hj, h]
  · rw [List.getElem?_eq_none (by simp [size_madeCells]; omega), List.getElem?_eq_none (by rw [flat_len]; omega)]
/-- Words in a row, apart from the pages. -/
structure SrcU (w : World) (a : Option Addr) (xs : List Int) (B G : Nat) : Prop where
  src : ∀ j, j < xs.length → ∃ ad, a = some ad ∧ ad.block < w.heap.size ∧ ad.block ≠ B ∧ ad.block ≠ G ∧ w.cell? (ad.add j) = some (.int .u32 (xs.getD j 0))
theorem SrcU.kept {w w' : World} {a : Option Addr} {xs : List Int} {B G g : Nat} (h : SrcU w a xs B G) (hg : w.grownBy w' (some g)) (hB : g = B ∨ g = G) : SrcU w' a xs B G := ⟨fun j hj => by
  obtain ⟨ad, h1, h2, h3, h4, h5⟩ := h.src j hj
  refine ⟨ad, h1, Nat.lt_of_lt_of_le h2 hg.size, h3, h4, (World.cell?_of_block (a := ad.add j) ?_).trans h5⟩
  rw [add_block']
  exact hg.block _ h2 (fun e => by injection e with e; rcases hB with rfl | rfl; exact h3 e; exact h4 e)⟩
/-- What a page of these words is. -/
def fresh (W : Nat → Nat → Int) (i : Nat) (xs : List Int) : Nat → Nat → Int := updW (updW W i (List.replicate 32 0)) i xs
def PBelow (w w' : World) (B G : Nat) : Prop := w'.os = w.os ∧ w'.tape = w.tape ∧ w'.output = w.output ∧ w.heap.size ≤ w'.heap.size ∧ ∀ k, k < w.heap.size → k ≠ B → k ≠ G → w'.heap[k]? = w.heap[k]?
theorem PBelow.of {w w' : World} {B G g : Nat} (h : w.grownBy w' (some g)) (hB : g = B ∨ g = G) : PBelow w w' B G := ⟨h.os, h.tape, h.output, h.size, fun k hk h1 h2 => h.block k hk (fun e => by injection e with e; rcases hB with rfl | rfl; exact h1 e; exact h2 e)⟩
theorem PBelow.of_below {w w' : World} {B G : Nat} (h : Below w.heap.size w w') : PBelow w w' B G := ⟨h.os, h.tape, h.output, h.size, fun k hk _ _ => h.block k hk⟩
theorem PBelow.trans {w w' w'' : World} {B G : Nat} (h : PBelow w w' B G) (h2 : PBelow w' w'' B G) : PBelow w w'' B G :=
  ⟨h2.1.trans h.1, h2.2.1.trans h.2.1, h2.2.2.1.trans h.2.2.1, Nat.le_trans h.2.2.2.1 h2.2.2.2.1, fun k hk h3 h4 => (h2.2.2.2.2 k (Nat.lt_of_lt_of_le hk h.2.2.2.1) h3 h4).trans (h.2.2.2.2 k hk h3 h4)⟩
theorem PBelow.below {w w' : World} {B G b : Nat} (h : PBelow w w' B G) (hB : b ≤ B) (hG : b ≤ G) (hb : b ≤ w.heap.size) : Below b w w' := ⟨h.1, h.2.1, h.2.2.1, h.2.2.2.1, fun k hk => h.2.2.2.2 k (by omega) (by omega) (by omega)⟩
end Go.Proofs.YtahhnfhnlffmpaaDoor
