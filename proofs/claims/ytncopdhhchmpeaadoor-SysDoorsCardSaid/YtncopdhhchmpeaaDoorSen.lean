/-
  The sentinels of a law that lists them all; what Is says of one.
-/
import Derived.Test.YtncopdhhchmpeaaDoorSee
namespace Go.Proofs.YtncopdhhchmpeaaDoor
open Go.ChangeShapes Go.WideShapes Go.ChangeAt Go.RowKit
set_option linter.unusedVariables false
theorem sen_of {l : List (String × DataW Unit)} {w : World} (h : laidMet Tryd.prog l w)
    (hl : ∀ n ∈ ["turnkey/api.ErrEnd", "turnkey/api.ErrShape", "turnkey/api.ErrRange", "turnkey/api.ErrMany", "turnkey/api.ErrNone", "turnkey/api.ErrFull", "turnkey/api.ErrLimit", "turnkey/api.ErrOwn", "turnkey/api.ErrState", "turnkey/api.ErrRight", "turnkey/api.ErrWord", "turnkey/api.ErrNumber"], ∃ t, (n, DataW.iface "*errors.errorString" (.ptr (.agg [.lit (.string t)]))) ∈ l) : Sen (atErr w) w := by
  refine errs_are h (fun g hg => ?_)
  unfold G12 at hg
  simp only [List.mem_cons, List.not_mem_nil, or_false] at hg
  rcases hg with rfl | rfl | rfl | rfl | rfl | rfl | rfl | rfl | rfl | rfl | rfl | rfl
  · obtain ⟨t, ht⟩ := hl "turnkey/api.ErrEnd" (by simp); exact ⟨_, t, ht, gErrEnd, tErrEnd⟩
  · obtain ⟨t, ht⟩ := hl "turnkey/api.ErrShape" (by simp); exact ⟨_, t, ht, gErrShape, tErrShape⟩
  · obtain ⟨t, ht⟩ := hl "turnkey/api.ErrRange" (by simp); exact ⟨_, t, ht, gErrRange, tErrRange⟩
  · obtain ⟨t, ht⟩ := hl "turnkey/api.ErrMany" (by simp); exact ⟨_, t, ht, gErrMany, tErrMany⟩
  · obtain ⟨t, ht⟩ := hl "turnkey/api.ErrNone" (by simp); exact ⟨_, t, ht, gErrNone, tErrNone⟩
  · obtain ⟨t, ht⟩ := hl "turnkey/api.ErrFull" (by simp); exact ⟨_, t, ht, gErrFull, tErrFull⟩
  · obtain ⟨t, ht⟩ := hl "turnkey/api.ErrLimit" (by simp); exact ⟨_, t, ht, gErrLimit, tErrLimit⟩
  · obtain ⟨t, ht⟩ := hl "turnkey/api.ErrOwn" (by simp); exact ⟨_, t, ht, gErrOwn, tErrOwn⟩
  · obtain ⟨t, ht⟩ := hl "turnkey/api.ErrState" (by simp); exact ⟨_, t, ht, gErrState, tErrState⟩
  · obtain ⟨t, ht⟩ := hl "turnkey/api.ErrRight" (by simp); exact ⟨_, t, ht, gErrRight, tErrRight⟩
  · obtain ⟨t, ht⟩ := hl "turnkey/api.ErrWord" (by simp); exact ⟨_, t, ht, gErrWord, tErrWord⟩
  · obtain ⟨t, ht⟩ := hl "turnkey/api.ErrNumber" (by simp); exact ⟨_, t, ht, gErrNumber, tErrNumber⟩
theorem is_sen (A : Nat → Addr) (j : Nat) (c : Int) (hj : j < 12) (hc : Hid (101 + (j : Int) = c)) (w : World) (h : Sen A w) :
    Calls Tryd.prog 7 #[eV (sA A j), .int .i64 c] w fun e w' => e = .returned (.bool true) ∧ Below w.heap.size w w' := by
  refine (is_any _ _ _ c _ w (FaultIs.err h j hj)).mono fun e w' ⟨he, hb⟩ => ⟨?_, hb⟩
  rw [he, ← hc.out]
  simp [faultB]
theorem Sen.err {A : Nat → Addr} {w : World} (h : Sen A w) (j : Nat) (hj : j < 12) : w.cell? ⟨G12.getD j 0, 0, none⟩ = some (eV (sA A j)) := (h.cell j hj).1
theorem cell_lt {w : World} {b o : Nat} {v : Value} (h : w.cell? ⟨b, o, none⟩ = some v) : b < w.heap.size := by
  rcases Nat.lt_or_ge b w.heap.size with h' | h'
  · exact h'
  · simp [World.cell?, Array.getElem?_eq_none h'] at h
theorem Sen.size {A : Nat → Addr} {w : World} (h : Sen A w) (j : Nat) (hj : j < 12) : G12.getD j 0 < w.heap.size := cell_lt (h.err j hj)
theorem Sen.c0 {A : Nat → Addr} {w : World} (h : Sen A w) : w.cell? ⟨7, 0, none⟩ = some (eV (sA A 0)) := h.err 0 (by decide)
theorem Sen.s0 {A : Nat → Addr} {w : World} (h : Sen A w) : 7 < w.heap.size := h.size 0 (by decide)
theorem Sen.c1 {A : Nat → Addr} {w : World} (h : Sen A w) : w.cell? ⟨6, 0, none⟩ = some (eV (sA A 1)) := h.err 1 (by decide)
theorem Sen.s1 {A : Nat → Addr} {w : World} (h : Sen A w) : 6 < w.heap.size := h.size 1 (by decide)
theorem Sen.c2 {A : Nat → Addr} {w : World} (h : Sen A w) : w.cell? ⟨2, 0, none⟩ = some (eV (sA A 2)) := h.err 2 (by decide)
theorem Sen.s2 {A : Nat → Addr} {w : World} (h : Sen A w) : 2 < w.heap.size := h.size 2 (by decide)
theorem Sen.c3 {A : Nat → Addr} {w : World} (h : Sen A w) : w.cell? ⟨3, 0, none⟩ = some (eV (sA A 3)) := h.err 3 (by decide)
theorem Sen.s3 {A : Nat → Addr} {w : World} (h : Sen A w) : 3 < w.heap.size := h.size 3 (by decide)
theorem Sen.c4 {A : Nat → Addr} {w : World} (h : Sen A w) : w.cell? ⟨0, 0, none⟩ = some (eV (sA A 4)) := h.err 4 (by decide)
theorem Sen.s4 {A : Nat → Addr} {w : World} (h : Sen A w) : 0 < w.heap.size := h.size 4 (by decide)
theorem Sen.c5 {A : Nat → Addr} {w : World} (h : Sen A w) : w.cell? ⟨5, 0, none⟩ = some (eV (sA A 5)) := h.err 5 (by decide)
theorem Sen.s5 {A : Nat → Addr} {w : World} (h : Sen A w) : 5 < w.heap.size := h.size 5 (by decide)
theorem Sen.c6 {A : Nat → Addr} {w : World} (h : Sen A w) : w.cell? ⟨4, 0, none⟩ = some (eV (sA A 6)) := h.err 6 (by decide)
theorem Sen.s6 {A : Nat → Addr} {w : World} (h : Sen A w) : 4 < w.heap.size := h.size 6 (by decide)
theorem Sen.c7 {A : Nat → Addr} {w : World} (h : Sen A w) : w.cell? ⟨1, 0, none⟩ = some (eV (sA A 7)) := h.err 7 (by decide)
theorem Sen.s7 {A : Nat → Addr} {w : World} (h : Sen A w) : 1 < w.heap.size := h.size 7 (by decide)
theorem Sen.c8 {A : Nat → Addr} {w : World} (h : Sen A w) : w.cell? ⟨8, 0, none⟩ = some (eV (sA A 8)) := h.err 8 (by decide)
theorem Sen.s8 {A : Nat → Addr} {w : World} (h : Sen A w) : 8 < w.heap.size := h.size 8 (by decide)
theorem Sen.c9 {A : Nat → Addr} {w : World} (h : Sen A w) : w.cell? ⟨9, 0, none⟩ = some (eV (sA A 9)) := h.err 9 (by decide)
theorem Sen.s9 {A : Nat → Addr} {w : World} (h : Sen A w) : 9 < w.heap.size := h.size 9 (by decide)
theorem Sen.c10 {A : Nat → Addr} {w : World} (h : Sen A w) : w.cell? ⟨10, 0, none⟩ = some (eV (sA A 10)) := h.err 10 (by decide)
theorem Sen.s10 {A : Nat → Addr} {w : World} (h : Sen A w) : 10 < w.heap.size := h.size 10 (by decide)
theorem Sen.c11 {A : Nat → Addr} {w : World} (h : Sen A w) : w.cell? ⟨11, 0, none⟩ = some (eV (sA A 11)) := h.err 11 (by decide)
theorem Sen.s11 {A : Nat → Addr} {w : World} (h : Sen A w) : 11 < w.heap.size := h.size 11 (by decide)
end Go.Proofs.YtncopdhhchmpeaaDoor
