/-
  chapter 5's first; PageFresh.
-/
import Derived.Test.YtjkbfhojjjkgnaaDoorPg2
namespace Go.Proofs.YtjkbfhojjjkgnaaDoor
open Go.ChangeShapes Go.WideShapes Go.ChangeAt Go.RowKit
set_option linter.unusedVariables false
theorem pmake_at {base P p B G n c : Nat} {th : Nat → Bool} {vr : Nat → Int} {W : Nat → Nat → Int} (id : Int) (a : Option Addr) (m c2 : Nat) (xs : List Int) (hm : Hid (xs.length = m)) (hx : m ≤ 32) (j : Nat) (hid : Hid (id = j)) (hj : j < n) (hyes : Hid (freeB th vr j = true)) (hno : Hid (∀ i, i < j → freeB th vr i = false)) (v : Int) (hv : Hid (vr j = v)) (w : World) (h : PgAt w base P p B G n c th vr W) (hs : SrcU w a xs B G) :
    Calls Tryd.prog 32 #[.pointer (some ⟨P, 0, none⟩), .slice a m c2] w fun e w' => e = .returned (.tuple #[.int .i64 id, .int .i64 v, .nilIface]) ∧ PgAt w' base P p B G n c (upd th j true) vr (fresh W j xs) ∧ PBelow w w' B G := by
  rw [hid.out]; exact pmake_ok a m c2 xs hm hx j hj hyes hno v hv w h hs
theorem pread_at {base P p B G n c : Nat} {th : Nat → Bool} {vr : Nat → Int} {W : Nat → Nat → Int} (kk aa : Int) (k at_ : Nat) (hkk : Hid (kk = k)) (haa : Hid (aa = at_)) (hk : k < n) (ha : at_ < 32) (ht : Hid (th k = true)) (x : Int) (hx : Hid (W k at_ = x)) (w : World) (h : PgAt w base P p B G n c th vr W) :
    Calls Tryd.prog 23 #[.pointer (some ⟨P, 0, none⟩), .int .i64 kk, .int .i64 aa] w fun e w' => e = .returned (.tuple #[.int .u32 x, .bool true]) ∧ w = w' := by
  rw [hkk.out, haa.out]; exact pread_is k at_ hk ha ht x hx w h
theorem rep0 (n j : Nat) : (List.replicate n (0 : Int)).getD j 0 = 0 := by
  simp only [List.getD, List.getElem?_replicate]
  split <;> rfl
theorem fresh_at (W : Nat → Nat → Int) (i : Nat) (xs : List Int) (j : Nat) (hj : j < 32) : fresh W i xs i j = if j < xs.length then xs.getD j 0 else 0 := by
  by_cases h : j < xs.length
  · simp [fresh, updW, h]
  · rw [if_neg h]
    unfold fresh updW
    rw [if_neg (fun e => h e.2), if_pos ⟨rfl, by simpa using hj⟩, rep0]
theorem fresh_other (W : Nat → Nat → Int) (i : Nat) (xs : List Int) (a j : Nat) (h : a ≠ i) : fresh W i xs a j = W a j := by
  simp [fresh, updW, h]
/-- Pages over a law's start. -/
structure PV (W0 w : World) (base P p B G n c : Nat) (th : Nat → Bool) (vr : Nat → Int) (W : Nat → Nat → Int) : Prop where
  bel : Below W0.heap.size W0 w
  wb : W0.heap.size ≤ base
  pg : PgAt w base P p B G n c th vr W
section
variable {W0 w w' : World} {base P p B G n c : Nat} {th th' : Nat → Bool} {vr vr' : Nat → Int} {W W' : Nat → Nat → Int}
theorem PV.ar (h : PV W0 w base P p B G n c th vr W) : ArAt w base p B n c th vr := h.pg.ar
theorem PV.lo (h : PV W0 w base P p B G n c th vr W) : W0.heap.size ≤ B ∧ W0.heap.size ≤ G := ⟨Nat.le_trans h.wb h.pg.ar.lt.1, Nat.le_trans h.wb (h.pg.row.lt G rfl).1⟩
theorem PV.step (h : PV W0 w base P p B G n c th vr W) (hb : Below w.heap.size w w') : PV W0 w' base P p B G n c th vr W := ⟨h.bel.trans (hb.mono h.bel.size), h.wb, h.pg.below hb⟩
theorem PV.turn (h : PV W0 w base P p B G n c th vr W) (hA : ArAt w' base p B n c th' vr') (hg : w.grownBy w' (some B)) : PV W0 w' base P p B G n c th' vr' W := ⟨below_grown h.bel hg h.lo.1, h.wb, h.pg.turn hA hg⟩
theorem PV.made (h : PV W0 w base P p B G n c th vr W) (hP : PgAt w' base P p B G n c th' vr' W') (hb : PBelow w w' B G) : PV W0 w' base P p B G n c th' vr' W' := ⟨h.bel.trans (hb.below h.lo.1 h.lo.2 h.bel.size), h.wb, hP⟩
theorem PV.congr (h : PV W0 w base P p B G n c th vr W) (h1 : ∀ i, i < n → th i = th' i) (h2 : ∀ i, i < n → vr i = vr' i) : PV W0 w base P p B G n c th' vr' W := ⟨h.bel, h.wb, h.pg.congr h1 h2⟩
theorem PV.wcongr (h : PV W0 w base P p B G n c th vr W) (h1 : ∀ i j, W i j = W' i j) : PV W0 w base P p B G n c th vr W' := by
  obtain rfl : W = W' := by funext i j; exact h1 i j
  exact h
end
/-- Words that are read there. -/
def RU (w : World) (a : Option Addr) (xs : List Int) : Prop := ∀ j, j < xs.length → ∃ ad, a = some ad ∧ ad.block < w.heap.size ∧ w.cell? (ad.add j) = some (.int .u32 (xs.getD j 0))
theorem RU.below {w w' : World} {a : Option Addr} {xs : List Int} (h : RU w a xs) (hb : Below w.heap.size w w') : RU w' a xs := by
  intro i hi
  obtain ⟨ad, h1, h2, h3⟩ := h i hi
  exact ⟨ad, h1, Nat.lt_of_lt_of_le h2 hb.size, (hb.cell (p := ad.add i) (by rw [add_block']; exact h2)).trans h3⟩
theorem srcu_arg {W0 w : World} {base P p B G n c : Nat} {th : Nat → Bool} {vr : Nat → Int} {W : Nat → Nat → Int} {a : Option Addr} {xs : List Int} (h : PV W0 w base P p B G n c th vr W) (hr : RU W0 a xs) : SrcU w a xs B G := ⟨fun j hj => by
  obtain ⟨ad, h1, h2, h3⟩ := hr j hj
  have hs := h.bel.size
  have hl := h.lo
  exact ⟨ad, h1, by omega, by omega, by omega, (h.bel.cell (p := ad.add j) (by rw [add_block']; exact h2)).trans h3⟩⟩
theorem ru_row {w : World} {a : Option Addr} {len cap : Nat} {zs : List Int} (h : IsRow .u32 w a len cap zs) : ∃ xs : List Int, xs.length = len ∧ RU w a xs ∧ len ≤ 9223372036854775807 := by
  rcases h with ⟨rfl, rfl, -, -⟩ | ⟨x, rfl, h1, h2, h3, h4, h5⟩
  · exact ⟨[], rfl, fun i hi => by simp at hi, by omega⟩
  · refine ⟨zs.take len, by simp; omega, fun i hi => ?_, by unfold maxLen at h2; omega⟩
    have hi' : i < len := by simp at hi; omega
    have hc := h4 i (by omega)
    refine ⟨x, rfl, ?_, ?_⟩
    · rcases Nat.lt_or_ge x.block w.heap.size with h' | h'
      · exact h'
      · have e : (x.add i).block = x.block := add_block' x i
        simp [World.cell?, e, Array.getElem?_eq_none h'] at hc
    · rw [hc]
      simp [List.getD, hi']
theorem srcu1 (w : World) (x : Int) (t : TypeId) (B G : Nat) (h1 : B < w.heap.size) (h2 : G < w.heap.size) : SrcU (w.alloc (.cells #[.int .u32 x] t)) (some ⟨w.heap.size, 0, none⟩) [x] B G := by
  refine ⟨fun j hj => ⟨_, rfl, by simp, by simp; omega, by simp; omega, ?_⟩⟩
  match j, hj with
  | 0, _ => simp [Addr.add, List.getD]
end Go.Proofs.YtjkbfhojjjkgnaaDoor
