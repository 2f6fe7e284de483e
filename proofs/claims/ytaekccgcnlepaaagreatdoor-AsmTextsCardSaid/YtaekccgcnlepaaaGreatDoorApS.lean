/-
  package asm: parse, the words read: what the loop keeps.
-/
import Derived.Test.YtaekccgcnlepaaaGreatDoorAp
namespace Go.Proofs.YtaekccgcnlepaaaGreatDoor
open Go.ChangeShapes Go.WideShapes Go.ChangeAt Go.RowKit
set_option linter.unusedVariables false
set_option linter.unusedSimpArgs false
def isR (k : UInt8) : Bool := !(k == 110 || k == 111)
theorem aWd_ascii : ∀ n : Fin 14, ∀ k ∈ aWd.getD n.val [], k.toNat < 128 := by decide
theorem aWd_kinds : ∀ n : Fin 14, ∀ k ∈ aWd.getD n.val [], k = 110 ∨ k = 111 ∨ k = 114 ∨ k = 107 ∨ k = 109 := by decide
theorem aWd_regs : ∀ n : Fin 14, ((aWd.getD n.val []).filter isR).length ≤ 3 := by decide
/-- The state of parse's loop behind j words. -/
structure PS (w wr : World) (R I Fb It : Nat) (wd : ByteArray) (op : Int) (j : Nat) (r : List Int) (im : Int) : Prop where
  bel : Below w.heap.size w wr
  rz : I5 wr R 0 0 0 0 0
  ins : I5 wr I op (r.getD 0 0) (r.getD 1 0) (r.getD 2 0) im
  p0 : wr.cell? ⟨Fb, 0, none⟩ = some (.pointer (some ⟨I, 1, none⟩))
  p1 : wr.cell? ⟨Fb, 1, none⟩ = some (.pointer (some ⟨I, 2, none⟩))
  p2 : wr.cell? ⟨Fb, 2, none⟩ = some (.pointer (some ⟨I, 3, none⟩))
  pl : Fb < wr.heap.size
  it : wr.heap[It]? = some (.stringIter wd j)
  ne : R ≠ I ∧ R ≠ Fb ∧ R ≠ It ∧ I ≠ Fb ∧ I ≠ It ∧ Fb ≠ It ∧ w.heap.size ≤ R ∧ w.heap.size ≤ I ∧ w.heap.size ≤ Fb ∧ w.heap.size ≤ It
section
variable {w wr W : World} {R I Fb It : Nat} {wd : ByteArray} {op : Int} {j : Nat} {r : List Int} {im : Int}
theorem it_lt {w : World} {k : Nat} {o : Obj} (h : w.heap[k]? = some o) : k < w.heap.size := lt_of_block h
theorem I5.far {b g i : Nat} {a0 a1 a2 a3 a4 : Int} {v : Value} (h : I5 wr b a0 a1 a2 a3 a4) (hn : b ≠ g) : I5 (wr.setCell ⟨g, i, none⟩ v) b a0 a1 a2 a3 a4 :=
  ⟨by have := h.lt; simpa using this, (sc_far hn).trans h.c0, (sc_far hn).trans h.c1, (sc_far hn).trans h.c2, (sc_far hn).trans h.c3, (sc_far hn).trans h.c4, fun j => (World.frozen?_setCell _ _ _ _).trans (h.fz j)⟩
theorem I5.block {b : Nat} {a0 a1 a2 a3 a4 : Int} (h : I5 wr b a0 a1 a2 a3 a4) (hs : wr.heap.size ≤ W.heap.size) (hb : W.heap[b]? = wr.heap[b]?) : I5 W b a0 a1 a2 a3 a4 :=
  ⟨Nat.lt_of_lt_of_le h.lt hs, (World.cell?_of_block (a := ⟨b, 0, none⟩) hb).trans h.c0, (World.cell?_of_block (a := ⟨b, 1, none⟩) hb).trans h.c1, (World.cell?_of_block (a := ⟨b, 2, none⟩) hb).trans h.c2, (World.cell?_of_block (a := ⟨b, 3, none⟩) hb).trans h.c3, (World.cell?_of_block (a := ⟨b, 4, none⟩) hb).trans h.c4, fun j => (World.frozen?_of_block (a := ⟨b, j, none⟩) hb).trans (h.fz j)⟩
theorem PS.below (h : PS w wr R I Fb It wd op j r im) (hb : Below wr.heap.size wr W) : PS w W R I Fb It wd op j r im :=
  ⟨h.bel.trans (hb.mono h.bel.size), h.rz.below hb, h.ins.below hb, (hb.cell (p := ⟨Fb, 0, none⟩) h.pl).trans h.p0, (hb.cell (p := ⟨Fb, 1, none⟩) h.pl).trans h.p1, (hb.cell (p := ⟨Fb, 2, none⟩) h.pl).trans h.p2, Nat.lt_of_lt_of_le h.pl hb.size, (hb.block It (it_lt h.it)).trans h.it, h.ne⟩
theorem iter_block (wr : World) (It k : Nat) (s : ByteArray) (p : Nat) (h : k ≠ It) : (wr.iterAt It s p).heap[k]? = wr.heap[k]? := by
  simp [World.iterAt, Array.getElem?_setIfInBounds, Ne.symm h]
/-- The next letter of what there must be. -/
theorem PS.next (h : PS w wr R I Fb It wd op j r im) : PS w (wr.iterAt It wd (j + 1)) R I Fb It wd op (j + 1) r im := by
  have hs : (wr.iterAt It wd (j + 1)).heap.size = wr.heap.size := by simp [World.iterAt]
  obtain ⟨n1, n2, n3, n4, n5, n6, n7, n8, n9, n10⟩ := h.ne
  have bI := iter_block wr It I wd (j + 1) n5
  have bR := iter_block wr It R wd (j + 1) n3
  have bF := iter_block wr It Fb wd (j + 1) n6
  exact ⟨Lib.below_iterAt h.bel n10 wd (j + 1), h.rz.block (by omega) bR, h.ins.block (by omega) bI, (World.cell?_of_block (a := ⟨Fb, 0, none⟩) bF).trans h.p0, (World.cell?_of_block (a := ⟨Fb, 1, none⟩) bF).trans h.p1, (World.cell?_of_block (a := ⟨Fb, 2, none⟩) bF).trans h.p2, by rw [hs]; exact h.pl, Lib.iterAt_heap wr It wd j (j + 1) h.it, h.ne⟩
theorem PS.set (h : PS w wr R I Fb It wd op j r im) (i : Nat) (v : Int) {r2 : List Int} {im2 : Int} (hi : I5 (wr.setCell ⟨I, i, none⟩ (.int .i64 v)) I op (r2.getD 0 0) (r2.getD 1 0) (r2.getD 2 0) im2) : PS w (wr.setCell ⟨I, i, none⟩ (.int .i64 v)) R I Fb It wd op j r2 im2 := by
  obtain ⟨n1, n2, n3, n4, n5, n6, n7, n8, n9, n10⟩ := h.ne
  exact ⟨h.bel.setCell n8 _, h.rz.far n1, hi, (sc_far (Ne.symm n4)).trans h.p0, (sc_far (Ne.symm n4)).trans h.p1, (sc_far (Ne.symm n4)).trans h.p2, by have := h.pl; simpa using this, (Below.heap_setCell _ _ _ _ (fun e => n5 (by simpa using e.symm))).trans h.it, h.ne⟩
/-- One register more. -/
theorem PS.reg (h : PS w wr R I Fb It wd op j r im) (v : Int) (t : Nat) (ht : r.length = t) (h3 : t < 3) : PS w (wr.setCell ⟨I, t + 1, none⟩ (.int .i64 v)) R I Fb It wd op j (r ++ [v]) im := by
  have hp := h.ins.put
  refine h.set (t + 1) v ?_
  rcases (show t = 0 ∨ t = 1 ∨ t = 2 by omega) with rfl | rfl | rfl
  · obtain rfl : r = [] := List.length_eq_zero_iff.1 ht
    exact hp.2.1 v
  · match r, ht with
    | [a], _ => exact hp.2.2.1 v
  · match r, ht with
    | [a, b], _ => exact hp.2.2.2.1 v
end
theorem PS.start (w w1 : World) (R : Nat) (wd : ByteArray) (op : Int) (t1 t2 : TypeId) (hR : w.heap.size ≤ R) (h : I5 w1 R 0 0 0 0 0) (hb : Below w.heap.size w w1) :
    PS w (((w1.alloc (.cells #[.int .i64 op, .int .i64 0, .int .i64 0, .int .i64 0, .int .i64 0] t1)).alloc (.cells #[.pointer (some ⟨w1.heap.size, 1, none⟩), .pointer (some ⟨w1.heap.size, 2, none⟩), .pointer (some ⟨w1.heap.size, 3, none⟩)] t2)).iter wd 0) R w1.heap.size (w1.heap.size + 1) (w1.heap.size + 1 + 1) wd op 0 [] 0 := by
  have hs := hb.size
  have hl := h.lt
  have b1 : Below w1.heap.size w1 (w1.alloc (.cells #[.int .i64 op, .int .i64 0, .int .i64 0, .int .i64 0, .int .i64 0] t1)) := (Below.refl _ _).alloc (Nat.le_refl _) _
  have hz : (w1.alloc (.cells #[.int .i64 op, .int .i64 0, .int .i64 0, .int .i64 0, .int .i64 0] t1)).heap.size = w1.heap.size + 1 := by simp
  have b2 : Below (w1.heap.size + 1) (w1.alloc (.cells #[.int .i64 op, .int .i64 0, .int .i64 0, .int .i64 0, .int .i64 0] t1)) (((w1.alloc (.cells #[.int .i64 op, .int .i64 0, .int .i64 0, .int .i64 0, .int .i64 0] t1)).alloc (.cells #[.pointer (some ⟨w1.heap.size, 1, none⟩), .pointer (some ⟨w1.heap.size, 2, none⟩), .pointer (some ⟨w1.heap.size, 3, none⟩)] t2)).iter wd 0) := by
    rw [← hz]
    exact ((Below.refl _ _).alloc (Nat.le_refl _) _).alloc (by simp) _
  have hI := (I5.new w1 t1 op 0 0 0 0).below (by rw [hz]; exact b2)
  obtain ⟨w2, hw2⟩ : ∃ w2, w2 = w1.alloc (.cells #[.int .i64 op, .int .i64 0, .int .i64 0, .int .i64 0, .int .i64 0] t1) := ⟨_, rfl⟩
  rw [← hw2] at b1 hz b2 hI ⊢
  have hz3 : (w2.alloc (.cells #[.pointer (some ⟨w1.heap.size, 1, none⟩), .pointer (some ⟨w1.heap.size, 2, none⟩), .pointer (some ⟨w1.heap.size, 3, none⟩)] t2)).heap.size = w1.heap.size + 1 + 1 := by simp [hz]
  have q : ∀ j, j < 3 → (w2.alloc (.cells #[.pointer (some ⟨w1.heap.size, 1, none⟩), .pointer (some ⟨w1.heap.size, 2, none⟩), .pointer (some ⟨w1.heap.size, 3, none⟩)] t2)).cell? ⟨w1.heap.size + 1, j, none⟩ = some (.pointer (some ⟨w1.heap.size, j + 1, none⟩)) := fun j hj => by
    rw [← hz]
    rcases (show j = 0 ∨ j = 1 ∨ j = 2 by omega) with rfl | rfl | rfl <;> simp
  obtain ⟨w3, hw3⟩ : ∃ w3, w3 = w2.alloc (.cells #[.pointer (some ⟨w1.heap.size, 1, none⟩), .pointer (some ⟨w1.heap.size, 2, none⟩), .pointer (some ⟨w1.heap.size, 3, none⟩)] t2) := ⟨_, rfl⟩
  rw [← hw3] at b2 hz3 q hI ⊢
  have b3 : Below w3.heap.size w3 (w3.iter wd 0) := (Below.refl _ _).alloc (Nat.le_refl _) _
  have hit := World.iter_heap w3 wd 0
  rw [hz3] at hit
  have hf : w1.heap.size + 1 < w3.heap.size := by omega
  exact ⟨hb.trans ((b1.trans (b2.mono (by omega))).mono hs), (h.below b1).below (by rw [hz]; exact b2), hI, (b3.cell (p := ⟨w1.heap.size + 1, 0, none⟩) hf).trans (q 0 (by decide)), (b3.cell (p := ⟨w1.heap.size + 1, 1, none⟩) hf).trans (q 1 (by decide)), (b3.cell (p := ⟨w1.heap.size + 1, 2, none⟩) hf).trans (q 2 (by decide)), Nat.lt_of_lt_of_le hf b3.size, hit, by omega⟩
/-- The places that are left for registers. -/
def fsV (Fb : Nat) (a : Option Addr) : Nat → Value
  | 0 => .slice (some ⟨Fb, 0, none⟩) 3 3
  | 1 => .slice (some ⟨Fb, 1, none⟩) 2 2
  | 2 => .slice (some ⟨Fb, 2, none⟩) 1 1
  | _ => .slice a 0 0
theorem drop_at (l : List UInt8) (j : Nat) (h : j < l.length) : l.drop j = l.getD j 0 :: l.drop (j + 1) := by
  rw [List.drop_eq_getElem_cons h]
  simp [List.getD, h]
theorem regs_take (l : List UInt8) (j : Nat) (h : j < l.length) : ((l.take (j + 1)).filter isR).length = ((l.take j).filter isR).length + (if isR (l.getD j 0) = true then 1 else 0) := by
  rw [List.take_succ_eq_append_getElem h, List.filter_append, List.length_append]
  congr 1
  have e : l.getD j 0 = l[j] := by simp [List.getD, h]
  rw [e]
  cases hq : isR l[j] <;> simp [hq]
theorem regs_le (l : List UInt8) (j : Nat) : ((l.take j).filter isR).length ≤ (l.filter isR).length := ((List.take_sublist j l).filter isR).length_le
end Go.Proofs.YtaekccgcnlepaaaGreatDoor
