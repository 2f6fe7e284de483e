import Derived.Test.YtahhnfhnlffmpaaRightFns
namespace Go.Proofs.Ytahhnfhnlffmpaa
open Go.ChangeShapes Go.WideShapes Go.ChangeAt Go.RowKit
set_option linter.unusedVariables false
/-- Rights taken away, one by one; other numbers do nothing. -/
def lessOne (r x : Int) : Int := if x = 1 ∨ x = 2 ∨ x = 4 then bits BinOp.or IntKind.i64 r x else r
def lessR (r : Int) (l : List Int) : Int := l.foldl lessOne r
theorem lessR_snoc (r : Int) (l : List Int) (x : Int) : lessR r (l ++ [x]) = lessOne (lessR r l) x := by simp [lessR, List.foldl_append]
theorem take_snoc (xs : List Int) (k : Nat) (h : k < xs.length) : xs.take (k + 1) = xs.take k ++ [xs.getD k 0] := by
  rw [List.take_succ_eq_append_getElem h]; simp [List.getD, h]

/-- A slice of numbers whose elements are xs. -/
structure RowI (w : World) (a : Option Addr) (len : Nat) (xs : List Int) : Prop where
  len_eq : xs.length = len
  cells : len = 0 ∨ ∃ b off, a = some ⟨b, off, none⟩ ∧ b < w.heap.size ∧ ∀ i, i < len → w.cell? ⟨b, off + i, none⟩ = some (.int .i64 (xs.getD i 0))

/-- The worlds within Less: the key's box, the answer's place. -/
structure LRs (w wr : World) (k0 k1 k2 R k4 : Int) : Prop where
  bel : Below w.heap.size w wr
  size : w.heap.size + 1 < wr.heap.size
  box : wr.cell? ⟨w.heap.size, 0, none⟩ = some (.int .i64 k0) ∧ wr.cell? ⟨w.heap.size, 1, none⟩ = some (.int .i64 k1) ∧ wr.cell? ⟨w.heap.size, 2, none⟩ = some (.int .i64 k2) ∧ wr.cell? ⟨w.heap.size, 3, none⟩ = some (.int .i64 R) ∧ wr.cell? ⟨w.heap.size, 4, none⟩ = some (.int .u32 k4)
  out : ∀ i, i < 5 → ∃ v, wr.cell? ⟨w.heap.size + 1, i, none⟩ = some v
  fr : ∀ i, wr.frozen? ⟨w.heap.size, i, none⟩ = false
  fr1 : ∀ i, wr.frozen? ⟨w.heap.size + 1, i, none⟩ = false
theorem LRs.start (w w1 : World) (k0 k1 k2 k3 k4 : Int)
    (hb : Below ((w.alloc (.cells #[.int .i64 k0, .int .i64 k1, .int .i64 k2, .int .i64 k3, .int .u32 k4] 24)).alloc (.cells #[.int .i64 0, .int .i64 0, .int .i64 0, .int .i64 0, .int .u32 0] 24)).heap.size ((w.alloc (.cells #[.int .i64 k0, .int .i64 k1, .int .i64 k2, .int .i64 k3, .int .u32 k4] 24)).alloc (.cells #[.int .i64 0, .int .i64 0, .int .i64 0, .int .i64 0, .int .u32 0] 24)) w1) : LRs w w1 k0 k1 k2 k3 k4 := by
  have hc := (bcell hb).1
  have hf := (bcell hb).2
  have hz := hb.size
  simp at hz
  refine ⟨Below.trans (((Below.refl _ _).alloc (Nat.le_refl _) _).alloc (by simp) _) (hb.mono (by simp; omega)), by omega, ?_, fun i hi => ?_, fun i => ?_, fun i => ?_⟩
  · refine ⟨?_, ?_, ?_, ?_, ?_⟩ <;> (rw [hc _ _ (by simp; omega)]; simp)
  · rw [hc _ _ (by simp)]
    match i, hi with
    | 0, _ => exact ⟨_, by simp; rfl⟩
    | 1, _ => exact ⟨_, by simp; rfl⟩
    | 2, _ => exact ⟨_, by simp; rfl⟩
    | 3, _ => exact ⟨_, by simp; rfl⟩
    | 4, _ => exact ⟨_, by simp; rfl⟩
  · rw [hf _ _ (by simp; omega)]; simp
  · rw [hf _ _ (by simp)]; simp
theorem LRs.set {w wr : World} {k0 k1 k2 R k4 : Int} (h : LRs w wr k0 k1 k2 R k4) (x : Int) : LRs w (wr.setCell ⟨w.heap.size, 3, none⟩ (.int .i64 x)) k0 k1 k2 x k4 := by
  obtain ⟨h1, h2, ⟨a0, a1, a2, a3, a4⟩, h4, h5, h6⟩ := h
  refine ⟨h1.setCell (by simp) _, by simpa [World.setCell] using h2, ?_, fun i hi => ?_, fun i => ?_, fun i => ?_⟩
  · refine ⟨?_, ?_, ?_, ?_, ?_⟩
    · rw [World.cell?_setCell_other _ _ _ _ (by simp)]; exact a0
    · rw [World.cell?_setCell_other _ _ _ _ (by simp)]; exact a1
    · rw [World.cell?_setCell_other _ _ _ _ (by simp)]; exact a2
    · exact World.cell?_setCell_same wr _ _ a3
    · rw [World.cell?_setCell_other _ _ _ _ (by simp)]; exact a4
  · rw [World.cell?_setCell_other _ _ _ _ (by simp)]; exact h4 i hi
  · rw [World.frozen?_setCell]; exact h5 i
  · rw [World.frozen?_setCell]; exact h6 i
def lessK (k0 k3 : Int) (l : List Int) : Int := if k0 = 2 ∨ k0 = 3 then lessR k3 l else k3
theorem RowI.new3 (W : World) (p q r : Int) : RowI (W.alloc (.cells #[.int .i64 p, .int .i64 q, .int .i64 r] 3)) (some ⟨W.heap.size, 0, none⟩) 3 [p, q, r] := by
  refine ⟨rfl, .inr ⟨W.heap.size, 0, rfl, by simp, fun i hi => ?_⟩⟩
  match i, hi with
  | 0, _ => simp
  | 1, _ => simp
  | 2, _ => simp
end Go.Proofs.Ytahhnfhnlffmpaa
