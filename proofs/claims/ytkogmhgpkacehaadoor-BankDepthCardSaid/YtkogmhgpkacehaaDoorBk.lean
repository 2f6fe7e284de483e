/-
  package bank: what banks are in memory.
-/
import Derived.Test.YtkogmhgpkacehaaDoorDs
import Derived.Test.YtkogmhgpkacehaaDoorChF
import Derived.Test.YtkogmhgpkacehaaDoorSx
namespace Go.Proofs.YtkogmhgpkacehaaDoor
open Go.ChangeShapes Go.WideShapes Go.ChangeAt Go.RowKit
set_option linter.unusedVariables false
/-- The cells of a bank's account, of a title. -/
def acS (pr us lm : Nat → Int) : Nat → Nat → Value := fun i b => if b = 0 then .int .i64 (pr i) else if b = 1 then .int .i64 (us i) else .int .i64 (lm i)
def tiS (ow vn : Nat → Int) : Nat → Nat → Value := fun i b => if b = 0 then .int .i64 (ow i) else .int .i64 (vn i)
/-- Which blocks are unlike. -/
structure BkNe (P p B A G1 G2 G3 : Nat) : Prop where
  PB : P ≠ B
  PA : P ≠ A
  P1 : P ≠ G1
  P2 : P ≠ G2
  P3 : P ≠ G3
  pA : p ≠ A
  p1 : p ≠ G1
  p2 : p ≠ G2
  p3 : p ≠ G3
  AB : A ≠ B
  A1 : A ≠ G1
  A2 : A ≠ G2
  A3 : A ≠ G3
  B1 : B ≠ G1
  B2 : B ≠ G2
  B3 : B ≠ G3
  g12 : G1 ≠ G2
  g13 : G1 ≠ G3
  g23 : G2 ≠ G3
/-- A row of so many places of so many cells. -/
def RowS (w : World) (base : Nat) (T : TypeId) (s G n : Nat) (W : Nat → Nat → Value) : Prop := w.ownsRow base T s (.slice (some ⟨G, 0, none⟩) n n) n (flatS s W n)
theorem RowS.lt {w : World} {base : Nat} {T : TypeId} {s G n : Nat} {W : Nat → Nat → Value} (h : RowS w base T s G n W) : base ≤ G ∧ G < w.heap.size := World.ownsRow.lt h G rfl
theorem RowS.same {w w' : World} {base : Nat} {T : TypeId} {s G n : Nat} {W : Nat → Nat → Value} (h : RowS w base T s G n W) (hb : w'.heap[G]? = w.heap[G]?) : RowS w' base T s G n W := by
  refine ⟨h.1, ?_⟩
  rcases h.2 with hn | ⟨g', cap, cur, e', hB, hg, rest⟩
  · exact .inl hn
  · refine .inr ⟨g', cap, cur, e', hB, ?_, rest⟩
    simp at e'
    rw [← e'.1, hb, e'.1]; exact hg
theorem RowS.at {w : World} {base : Nat} {T : TypeId} {s G n : Nat} {W : Nat → Nat → Value} (h : RowS w base T s G n W) (i j : Nat) (hi : i < n) (hj : j < s) : w.cell? ⟨G, i * s + j, none⟩ = some (W i j) := by
  rw [World.ownsRow.cellAt h (i * s + j) (mid_lt hi hj), flatS_at s W n i j hi hj]
theorem RowS.fr {w : World} {base : Nat} {T : TypeId} {s G n : Nat} {W : Nat → Nat → Value} (h : RowS w base T s G n W) (j : Nat) : w.frozen? ⟨G, j, none⟩ = false := World.ownsRow.frozenAt h j
theorem RowS.congr {w : World} {base : Nat} {T : TypeId} {s G n : Nat} {W W' : Nat → Nat → Value} (h : RowS w base T s G n W) (h0 : 0 < s) (hw : ∀ i j, i < n → j < s → W i j = W' i j) : RowS w base T s G n W' := by
  unfold RowS
  rw [← flatS_congr s W W' n h0 hw]
  exact h
theorem RowS.set {w : World} {base : Nat} {T : TypeId} {s G n : Nat} {W : Nat → Nat → Value} (h : RowS w base T s G n W) (i j : Nat) (hi : i < n) (hj : j < s) (u : Value) : RowS (w.setCell ⟨G, i * s + j, none⟩ u) base T s G n (updS W i j [u]) ∧ w.grownBy (w.setCell ⟨G, i * s + j, none⟩ u) (some G) := by
  have hs := own_setCells [u] (i * s + j) _ _ h
  rw [flatS_over s W n i j [u] hi (by simp; omega)] at hs
  exact hs
theorem updS_acP (pr us lm : Nat → Int) (i : Nat) (x : Int) : ∀ a b, b < 3 → updS (acS pr us lm) i 0 [.int .i64 x] a b = acS (upd pr i x) us lm a b := by
  intro a b hb
  unfold updS acS upd
  rcases (show b = 0 ∨ b = 1 ∨ b = 2 by omega) with rfl | rfl | rfl <;> by_cases e : a = i <;> simp [e]
theorem updS_acU (pr us lm : Nat → Int) (i : Nat) (x : Int) : ∀ a b, b < 3 → updS (acS pr us lm) i 1 [.int .i64 x] a b = acS pr (upd us i x) lm a b := by
  intro a b hb
  unfold updS acS upd
  rcases (show b = 0 ∨ b = 1 ∨ b = 2 by omega) with rfl | rfl | rfl <;> by_cases e : a = i <;> simp [e]
theorem updS_acL (pr us lm : Nat → Int) (i : Nat) (x : Int) : ∀ a b, b < 3 → updS (acS pr us lm) i 2 [.int .i64 x] a b = acS pr us (upd lm i x) a b := by
  intro a b hb
  unfold updS acS upd
  rcases (show b = 0 ∨ b = 1 ∨ b = 2 by omega) with rfl | rfl | rfl <;> by_cases e : a = i <;> simp [e]
theorem updS_ti0 (ow vn : Nat → Int) (i : Nat) (x : Int) : ∀ a b, b < 2 → updS (tiS ow vn) i 0 [.int .i64 x] a b = tiS (upd ow i x) vn a b := by
  intro a b hb
  unfold updS tiS upd
  rcases (show b = 0 ∨ b = 1 by omega) with rfl | rfl <;> by_cases e : a = i <;> simp [e]
theorem updS_ti1 (ow vn : Nat → Int) (i : Nat) (x : Int) : ∀ a b, b < 2 → updS (tiS ow vn) i 1 [.int .i64 x] a b = tiS ow (upd vn i x) a b := by
  intro a b hb
  unfold updS tiS upd
  rcases (show b = 0 ∨ b = 1 by omega) with rfl | rfl <;> by_cases e : a = i <;> simp [e]
/-- Banks at block P: their arena, accounts at A, whose the nodes, pages, domains are. -/
structure BkAt (w : World) (base P p B A G1 G2 G3 n c mb db : Nat) (th : Nat → Bool) (vr pr us lm o1 v1 o2 v2 o3 v3 : Nat → Int) : Prop where
  pl : P < w.heap.size
  pb : base ≤ P
  f0 : w.cell? ⟨P, 0, none⟩ = some (.pointer (some ⟨p, 0, none⟩))
  f1 : w.cell? ⟨P, 1, none⟩ = some (.pointer (some ⟨mb, 0, none⟩))
  f2 : w.cell? ⟨P, 2, none⟩ = some (.pointer (some ⟨db, 0, none⟩))
  f3 : w.cell? ⟨P, 3, none⟩ = some (.slice (some ⟨A, 0, none⟩) n n)
  f4 : w.cell? ⟨P, 4, none⟩ = some (.slice (some ⟨G1, 0, none⟩) 256 256)
  f5 : w.cell? ⟨P, 5, none⟩ = some (.slice (some ⟨G2, 0, none⟩) 256 256)
  f6 : w.cell? ⟨P, 6, none⟩ = some (.slice (some ⟨G3, 0, none⟩) 256 256)
  ar : ArAt w base p B n c th vr
  ac : RowS w base 231 3 A n (acS pr us lm)
  t1 : RowS w base 238 2 G1 256 (tiS o1 v1)
  t2 : RowS w base 238 2 G2 256 (tiS o2 v2)
  t3 : RowS w base 238 2 G3 256 (tiS o3 v3)
  ne : BkNe P p B A G1 G2 G3
section
variable {w w' : World}
theorem BkAt.keep {base P p B A G1 G2 G3 n c mb db : Nat} {th : Nat → Bool} {vr pr us lm o1 v1 o2 v2 o3 v3 : Nat → Int} (h : (BkAt w base P p B A G1 G2 G3 n c mb db th vr pr us lm o1 v1 o2 v2 o3 v3)) (hs : w.heap.size ≤ w'.heap.size) (hP : w'.heap[P]? = w.heap[P]?) {th' : Nat → Bool} {vr' pr' us' lm' o1' v1' o2' v2' o3' v3' : Nat → Int} (hr : ArAt w' base p B n c th' vr') (ha : RowS w' base 231 3 A n (acS pr' us' lm')) (h1 : RowS w' base 238 2 G1 256 (tiS o1' v1')) (h2 : RowS w' base 238 2 G2 256 (tiS o2' v2')) (h3 : RowS w' base 238 2 G3 256 (tiS o3' v3')) : BkAt w' base P p B A G1 G2 G3 n c mb db th' vr' pr' us' lm' o1' v1' o2' v2' o3' v3' :=
  ⟨Nat.lt_of_lt_of_le h.pl hs, h.pb, (World.cell?_of_block (a := ⟨P, 0, none⟩) hP).trans h.f0, (World.cell?_of_block (a := ⟨P, 1, none⟩) hP).trans h.f1, (World.cell?_of_block (a := ⟨P, 2, none⟩) hP).trans h.f2, (World.cell?_of_block (a := ⟨P, 3, none⟩) hP).trans h.f3, (World.cell?_of_block (a := ⟨P, 4, none⟩) hP).trans h.f4, (World.cell?_of_block (a := ⟨P, 5, none⟩) hP).trans h.f5, (World.cell?_of_block (a := ⟨P, 6, none⟩) hP).trans h.f6, hr, ha, h1, h2, h3, h.ne⟩
theorem ArAt.same2 {base p B n c : Nat} {th : Nat → Bool} {vr : Nat → Int} (h : ArAt w base p B n c th vr) (hs : w.heap.size ≤ w'.heap.size) (h1 : w'.heap[p]? = w.heap[p]?) (h2 : w'.heap[B]? = w.heap[B]?) : ArAt w' base p B n c th vr := by
  refine ⟨Nat.lt_of_lt_of_le h.pl hs, h.pb, (World.cell?_of_block (a := ⟨p, 0, none⟩) h1).trans h.fld, ?_, h.ne, h.le⟩
  refine ⟨h.own.1, ?_⟩
  rcases h.own.2 with hn | ⟨g', cap, cur, e', hB, hg, rest⟩
  · exact .inl hn
  · refine .inr ⟨g', cap, cur, e', hB, ?_, rest⟩
    simp at e'
    rw [← e'.1, h2, e'.1]; exact hg
theorem BkAt.same {base P p B A G1 G2 G3 n c mb db : Nat} {th : Nat → Bool} {vr pr us lm o1 v1 o2 v2 o3 v3 : Nat → Int} (h : (BkAt w base P p B A G1 G2 G3 n c mb db th vr pr us lm o1 v1 o2 v2 o3 v3)) (hs : w.heap.size ≤ w'.heap.size) (hk : ∀ k, base ≤ k → k < w.heap.size → w'.heap[k]? = w.heap[k]?) : (BkAt w' base P p B A G1 G2 G3 n c mb db th vr pr us lm o1 v1 o2 v2 o3 v3) :=
  h.keep hs (hk P h.pb h.pl) (h.ar.same2 hs (hk p h.ar.pb h.ar.pl) (hk B h.ar.lt.1 h.ar.lt.2)) (h.ac.same (hk A h.ac.lt.1 h.ac.lt.2)) (h.t1.same (hk G1 h.t1.lt.1 h.t1.lt.2)) (h.t2.same (hk G2 h.t2.lt.1 h.t2.lt.2)) (h.t3.same (hk G3 h.t3.lt.1 h.t3.lt.2))
theorem BkAt.below {base P p B A G1 G2 G3 n c mb db : Nat} {th : Nat → Bool} {vr pr us lm o1 v1 o2 v2 o3 v3 : Nat → Int} (h : (BkAt w base P p B A G1 G2 G3 n c mb db th vr pr us lm o1 v1 o2 v2 o3 v3)) (hb : Below w.heap.size w w') : (BkAt w' base P p B A G1 G2 G3 n c mb db th vr pr us lm o1 v1 o2 v2 o3 v3) := h.same hb.size (fun k _ hk => hb.block k hk)
/-- The arena's row was written. -/
theorem BkAt.turn {base P p B A G1 G2 G3 n c mb db : Nat} {th : Nat → Bool} {vr pr us lm o1 v1 o2 v2 o3 v3 : Nat → Int} (h : (BkAt w base P p B A G1 G2 G3 n c mb db th vr pr us lm o1 v1 o2 v2 o3 v3)) {th' : Nat → Bool} {vr' : Nat → Int} (hA : ArAt w' base p B n c th' vr') (hg : w.grownBy w' (some B)) : BkAt w' base P p B A G1 G2 G3 n c mb db th' vr' pr us lm o1 v1 o2 v2 o3 v3 := by
  have k : ∀ x, x < w.heap.size → x ≠ B → w'.heap[x]? = w.heap[x]? := fun x hx hn => hg.block x hx (fun e => hn (by injection e))
  exact h.keep hg.size (k P h.pl h.ne.PB) hA (h.ac.same (k A h.ac.lt.2 h.ne.AB)) (h.t1.same (k G1 h.t1.lt.2 (Ne.symm h.ne.B1))) (h.t2.same (k G2 h.t2.lt.2 (Ne.symm h.ne.B2))) (h.t3.same (k G3 h.t3.lt.2 (Ne.symm h.ne.B3)))
theorem BkAt.acc {base P p B A G1 G2 G3 n c mb db : Nat} {th : Nat → Bool} {vr pr us lm o1 v1 o2 v2 o3 v3 : Nat → Int} (h : (BkAt w base P p B A G1 G2 G3 n c mb db th vr pr us lm o1 v1 o2 v2 o3 v3)) {pr' us' lm' : Nat → Int} (ha : RowS w' base 231 3 A n (acS pr' us' lm')) (hg : w.grownBy w' (some A)) : BkAt w' base P p B A G1 G2 G3 n c mb db th vr pr' us' lm' o1 v1 o2 v2 o3 v3 := by
  have k : ∀ x, x < w.heap.size → x ≠ A → w'.heap[x]? = w.heap[x]? := fun x hx hn => hg.block x hx (fun e => hn (by injection e))
  exact h.keep hg.size (k P h.pl h.ne.PA) (h.ar.same2 hg.size (k p h.ar.pl h.ne.pA) (k B h.ar.lt.2 (Ne.symm h.ne.AB))) ha (h.t1.same (k G1 h.t1.lt.2 (Ne.symm h.ne.A1))) (h.t2.same (k G2 h.t2.lt.2 (Ne.symm h.ne.A2))) (h.t3.same (k G3 h.t3.lt.2 (Ne.symm h.ne.A3)))
theorem BkAt.ti1 {base P p B A G1 G2 G3 n c mb db : Nat} {th : Nat → Bool} {vr pr us lm o1 v1 o2 v2 o3 v3 : Nat → Int} (h : (BkAt w base P p B A G1 G2 G3 n c mb db th vr pr us lm o1 v1 o2 v2 o3 v3)) {o1' v1' : Nat → Int} (ha : RowS w' base 238 2 G1 256 (tiS o1' v1')) (hg : w.grownBy w' (some G1)) : BkAt w' base P p B A G1 G2 G3 n c mb db th vr pr us lm o1' v1' o2 v2 o3 v3 := by
  have k : ∀ x, x < w.heap.size → x ≠ G1 → w'.heap[x]? = w.heap[x]? := fun x hx hn => hg.block x hx (fun e => hn (by injection e))
  exact h.keep hg.size (k P h.pl h.ne.P1) (h.ar.same2 hg.size (k p h.ar.pl h.ne.p1) (k B h.ar.lt.2 h.ne.B1)) (h.ac.same (k A h.ac.lt.2 h.ne.A1)) ha (h.t2.same (k G2 h.t2.lt.2 (Ne.symm h.ne.g12))) (h.t3.same (k G3 h.t3.lt.2 (Ne.symm h.ne.g13)))
theorem BkAt.ti2 {base P p B A G1 G2 G3 n c mb db : Nat} {th : Nat → Bool} {vr pr us lm o1 v1 o2 v2 o3 v3 : Nat → Int} (h : (BkAt w base P p B A G1 G2 G3 n c mb db th vr pr us lm o1 v1 o2 v2 o3 v3)) {o2' v2' : Nat → Int} (ha : RowS w' base 238 2 G2 256 (tiS o2' v2')) (hg : w.grownBy w' (some G2)) : BkAt w' base P p B A G1 G2 G3 n c mb db th vr pr us lm o1 v1 o2' v2' o3 v3 := by
  have k : ∀ x, x < w.heap.size → x ≠ G2 → w'.heap[x]? = w.heap[x]? := fun x hx hn => hg.block x hx (fun e => hn (by injection e))
  exact h.keep hg.size (k P h.pl h.ne.P2) (h.ar.same2 hg.size (k p h.ar.pl h.ne.p2) (k B h.ar.lt.2 h.ne.B2)) (h.ac.same (k A h.ac.lt.2 h.ne.A2)) (h.t1.same (k G1 h.t1.lt.2 h.ne.g12)) ha (h.t3.same (k G3 h.t3.lt.2 (Ne.symm h.ne.g23)))
theorem BkAt.ti3 {base P p B A G1 G2 G3 n c mb db : Nat} {th : Nat → Bool} {vr pr us lm o1 v1 o2 v2 o3 v3 : Nat → Int} (h : (BkAt w base P p B A G1 G2 G3 n c mb db th vr pr us lm o1 v1 o2 v2 o3 v3)) {o3' v3' : Nat → Int} (ha : RowS w' base 238 2 G3 256 (tiS o3' v3')) (hg : w.grownBy w' (some G3)) : BkAt w' base P p B A G1 G2 G3 n c mb db th vr pr us lm o1 v1 o2 v2 o3' v3' := by
  have k : ∀ x, x < w.heap.size → x ≠ G3 → w'.heap[x]? = w.heap[x]? := fun x hx hn => hg.block x hx (fun e => hn (by injection e))
  exact h.keep hg.size (k P h.pl h.ne.P3) (h.ar.same2 hg.size (k p h.ar.pl h.ne.p3) (k B h.ar.lt.2 h.ne.B3)) (h.ac.same (k A h.ac.lt.2 h.ne.A3)) (h.t1.same (k G1 h.t1.lt.2 h.ne.g13)) (h.t2.same (k G2 h.t2.lt.2 h.ne.g23)) ha
theorem low_of {base g : Nat} (hg : w.grownBy w' (some g)) (h1 : base ≤ g) (h2 : base ≤ w.heap.size) : Below base w w' := ⟨hg.os, hg.tape, hg.output, hg.size, fun k hk => hg.block k (by omega) (fun e => by injection e with e; omega)⟩
/-- An account's field anew. -/
theorem BkAt.setU {base P p B A G1 G2 G3 n c mb db : Nat} {th : Nat → Bool} {vr pr us lm o1 v1 o2 v2 o3 v3 : Nat → Int} (h : (BkAt w base P p B A G1 G2 G3 n c mb db th vr pr us lm o1 v1 o2 v2 o3 v3)) (i : Nat) (hi : i < n) (x : Int) : BkAt (w.setCell ⟨A, i * 3 + 1, none⟩ (.int .i64 x)) base P p B A G1 G2 G3 n c mb db th vr pr (upd us i x) lm o1 v1 o2 v2 o3 v3 ∧ w.grownBy (w.setCell ⟨A, i * 3 + 1, none⟩ (.int .i64 x)) (some A) := by
  have hs := h.ac.set i 1 hi (by decide) (.int .i64 x)
  exact ⟨h.acc (hs.1.congr (by decide) (fun a b _ hb => updS_acU _ _ _ _ _ a b hb)) hs.2, hs.2⟩
theorem BkAt.setP {base P p B A G1 G2 G3 n c mb db : Nat} {th : Nat → Bool} {vr pr us lm o1 v1 o2 v2 o3 v3 : Nat → Int} (h : (BkAt w base P p B A G1 G2 G3 n c mb db th vr pr us lm o1 v1 o2 v2 o3 v3)) (i : Nat) (hi : i < n) (x : Int) : BkAt (w.setCell ⟨A, i * 3, none⟩ (.int .i64 x)) base P p B A G1 G2 G3 n c mb db th vr (upd pr i x) us lm o1 v1 o2 v2 o3 v3 ∧ w.grownBy (w.setCell ⟨A, i * 3, none⟩ (.int .i64 x)) (some A) := by
  have hs := h.ac.set i 0 hi (by decide) (.int .i64 x)
  rw [Nat.add_zero] at hs
  exact ⟨h.acc (hs.1.congr (by decide) (fun a b _ hb => updS_acP _ _ _ _ _ a b hb)) hs.2, hs.2⟩
theorem BkAt.setL {base P p B A G1 G2 G3 n c mb db : Nat} {th : Nat → Bool} {vr pr us lm o1 v1 o2 v2 o3 v3 : Nat → Int} (h : (BkAt w base P p B A G1 G2 G3 n c mb db th vr pr us lm o1 v1 o2 v2 o3 v3)) (i : Nat) (hi : i < n) (x : Int) : BkAt (w.setCell ⟨A, i * 3 + 2, none⟩ (.int .i64 x)) base P p B A G1 G2 G3 n c mb db th vr pr us (upd lm i x) o1 v1 o2 v2 o3 v3 ∧ w.grownBy (w.setCell ⟨A, i * 3 + 2, none⟩ (.int .i64 x)) (some A) := by
  have hs := h.ac.set i 2 hi (by decide) (.int .i64 x)
  exact ⟨h.acc (hs.1.congr (by decide) (fun a b _ hb => updS_acL _ _ _ _ _ a b hb)) hs.2, hs.2⟩
theorem RowS.title {base G : Nat} {ow vn : Nat → Int} (h : RowS w base 238 2 G 256 (tiS ow vn)) (i : Nat) (hi : i < 256) (x y : Int) : RowS ((w.setCell ⟨G, i * 2, none⟩ (.int .i64 x)).setCell ⟨G, i * 2 + 1, none⟩ (.int .i64 y)) base 238 2 G 256 (tiS (upd ow i x) (upd vn i y)) ∧ w.grownBy ((w.setCell ⟨G, i * 2, none⟩ (.int .i64 x)).setCell ⟨G, i * 2 + 1, none⟩ (.int .i64 y)) (some G) := by
  have h1 := h.set i 0 hi (by decide) (.int .i64 x)
  rw [Nat.add_zero] at h1
  have h2 := (h1.1.congr (by decide) (fun a b _ hb => updS_ti0 _ _ _ _ a b hb)).set i 1 hi (by decide) (.int .i64 y)
  exact ⟨h2.1.congr (by decide) (fun a b _ hb => updS_ti1 _ _ _ _ a b hb), grown_more h1.2 h2.2⟩
theorem BkAt.ac0 {base P p B A G1 G2 G3 n c mb db : Nat} {th : Nat → Bool} {vr pr us lm o1 v1 o2 v2 o3 v3 : Nat → Int} (h : (BkAt w base P p B A G1 G2 G3 n c mb db th vr pr us lm o1 v1 o2 v2 o3 v3)) (i : Nat) (hi : i < n) : w.cell? ⟨A, i * 3, none⟩ = some (.int .i64 (pr i)) := by have := h.ac.at i 0 hi (by decide); simpa [acS] using this
theorem BkAt.ac1 {base P p B A G1 G2 G3 n c mb db : Nat} {th : Nat → Bool} {vr pr us lm o1 v1 o2 v2 o3 v3 : Nat → Int} (h : (BkAt w base P p B A G1 G2 G3 n c mb db th vr pr us lm o1 v1 o2 v2 o3 v3)) (i : Nat) (hi : i < n) : w.cell? ⟨A, i * 3 + 1, none⟩ = some (.int .i64 (us i)) := by have := h.ac.at i 1 hi (by decide); simpa [acS] using this
theorem BkAt.ac2 {base P p B A G1 G2 G3 n c mb db : Nat} {th : Nat → Bool} {vr pr us lm o1 v1 o2 v2 o3 v3 : Nat → Int} (h : (BkAt w base P p B A G1 G2 G3 n c mb db th vr pr us lm o1 v1 o2 v2 o3 v3)) (i : Nat) (hi : i < n) : w.cell? ⟨A, i * 3 + 2, none⟩ = some (.int .i64 (lm i)) := by have := h.ac.at i 2 hi (by decide); simpa [acS] using this
theorem RowS.ti {base G : Nat} {ow vn : Nat → Int} (h : RowS w base 238 2 G 256 (tiS ow vn)) (i : Nat) (hi : i < 256) : w.cell? ⟨G, i * 2, none⟩ = some (.int .i64 (ow i)) ∧ w.cell? ⟨G, i * 2 + 1, none⟩ = some (.int .i64 (vn i)) := by
  have h0 := h.at i 0 hi (by decide)
  have h1 := h.at i 1 hi (by decide)
  exact ⟨by simpa [tiS] using h0, by simpa [tiS] using h1⟩
end
end Go.Proofs.YtkogmhgpkacehaaDoor
