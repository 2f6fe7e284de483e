/-
  PageApart.
-/
import Derived.Test.YtjkbfhojjjkgnaaDoorPg3
namespace Go.Proofs.YtjkbfhojjjkgnaaDoor
open Go.ChangeShapes Go.WideShapes Go.ChangeAt Go.RowKit
set_option linter.unusedVariables false
theorem pwrite_at {base P p B G n c : Nat} {th : Nat → Bool} {vr : Nat → Int} {W : Nat → Nat → Int} (kk aa : Int) (k at_ : Nat) (hkk : Hid (kk = k)) (haa : Hid (aa = at_)) (hk : k < n) (ha : at_ < 32) (ht : Hid (th k = true)) (x : Int) (w : World) (h : PgAt w base P p B G n c th vr W) :
    Calls Tryd.prog 97 #[.pointer (some ⟨P, 0, none⟩), .int .i64 kk, .int .i64 aa, .int .u32 x] w fun e w' => e = .returned (.bool true) ∧ PgAt w' base P p B G n c th vr (updA W k at_ x) ∧ PBelow w w' B G := by
  rw [hkk.out, haa.out]; exact pwrite_is k at_ hk ha ht x w h
theorem srcu2 (w : World) (x y : Int) (t : TypeId) (B G : Nat) (h1 : B < w.heap.size) (h2 : G < w.heap.size) : SrcU (w.alloc (.cells #[.int .u32 x, .int .u32 y] t)) (some ⟨w.heap.size, 0, none⟩) [x, y] B G := by
  refine ⟨fun j hj => ⟨_, rfl, by simp, by simp; omega, by simp; omega, ?_⟩⟩
  match j, hj with
  | 0, _ | 1, _ => simp [Addr.add, List.getD]
/-- The words while the pages are made. -/
def wk (k : Nat) : Nat → Nat → Int := fun a b => if a < k ∧ b < 2 then (a : Int) else 0
theorem wk_next (k a b : Nat) (hb : b < 32) : fresh (wk k) k [(k : Int), (k : Int)] a b = wk (k + 1) a b := by
  by_cases e : a = k
  · subst e
    rw [fresh_at _ _ _ _ hb]
    unfold wk
    match b with
    | 0 | 1 => simp
    | b + 2 => rw [if_neg (by simp), if_neg (by omega)]
  · rw [fresh_other _ _ _ _ _ e]
    unfold wk
    by_cases h : a < k ∧ b < 2
    · rw [if_pos h, if_pos ⟨by omega, h.2⟩]
    · rw [if_neg h, if_neg (by omega)]
theorem flat_congr {W W' : Nat → Nat → Int} (n : Nat) (h : ∀ i j, j < 32 → W i j = W' i j) : flat W n = flat W' n := by
  unfold flat
  apply List.map_congr_left
  intro q _
  rw [h _ _ (Nat.mod_lt _ (by decide))]
theorem PV.words {W0 w : World} {base P p B G n c : Nat} {th : Nat → Bool} {vr : Nat → Int} {W W' : Nat → Nat → Int} (h : PV W0 w base P p B G n c th vr W) (h1 : ∀ i j, j < 32 → W i j = W' i j) : PV W0 w base P p B G n c th vr W' :=
  ⟨h.bel, h.wb, ⟨h.pg.pl, h.pg.pb, h.pg.f0, h.pg.f1, h.pg.ar, by rw [← flat_congr n h1]; exact h.pg.row, h.pg.n1, h.pg.n2, h.pg.n3, h.pg.n4⟩⟩
/-- The pages, and what was handed out of one. -/
structure LR (W0 w : World) (base P p B G n c : Nat) (th : Nat → Bool) (vr : Nat → Int) (W : Nat → Nat → Int) (g c' : Nat) : Prop where
  pv : PV W0 w base P p B G n c th vr W
  row : ∃ ys : List Int, ys.length = 32 ∧ w.ownsRow W0.heap.size 22 1 (.slice (some ⟨g, 0, none⟩) 32 c') 32 (ys.map (Value.int .u32))
  n1 : g ≠ P
  n2 : g ≠ p
  n3 : g ≠ B
  n4 : g ≠ G
section
variable {W0 w w' : World} {base P p B G n c g c' : Nat} {th : Nat → Bool} {vr : Nat → Int} {W : Nat → Nat → Int}
theorem LR.at (h : LR W0 w base P p B G n c th vr W g c') (k : Nat) (hk : k < 32) : ∃ x, w.cell? ⟨g, k, none⟩ = some (.int .u32 x) ∧ w.frozen? ⟨g, k, none⟩ = false := by
  obtain ⟨ys, hy, hr⟩ := h.row
  refine ⟨ys.getD k 0, ?_, hr.frozenAt k⟩
  rw [hr.cellAt k (by omega)]
  have : k < ys.length := by omega
  simp [List.getD, this]
theorem LR.put (h : LR W0 w base P p B G n c th vr W g c') (k : Nat) (x : Int) : LR W0 (w.setCell ⟨g, k, none⟩ (.int .u32 x)) base P p B G n c th vr W g c' := by
  obtain ⟨ys, hy, hr⟩ := h.row
  have hs := hr.stored k (.int .u32 x)
  refine ⟨⟨h.pv.bel.grown hs.2 h.pv.bel.size (fun j hj => by injection hj with e; have := (hr.lt g rfl).1; omega), h.pv.wb, h.pv.pg.kept hs.2 h.n1 h.n2 h.n3 h.n4⟩, ⟨ys.set k x, by simpa using hy, by rw [List.map_set]; exact hs.1⟩, h.n1, h.n2, h.n3, h.n4⟩
theorem LR.start (h : PV W0 w base P p B G n c th vr W) (xs : List Int) (hx : xs.length = 32) (hr : w'.ownsRow w.heap.size 22 1 (.slice (some ⟨g, 0, none⟩) 32 c') 32 (xs.map (Value.int .u32))) (hb : Below w.heap.size w w') : LR W0 w' base P p B G n c th vr W g c' := by
  have hg := (hr.lt g rfl).1
  have h1 := h.pg.pl
  have h2 := h.pg.ar.pl
  have h3 := h.pg.ar.lt.2
  have h4 := (h.pg.row.lt G rfl).2
  refine ⟨h.step hb, ⟨xs, hx, hr.1, ?_⟩, by omega, by omega, by omega, by omega⟩
  rcases hr.2 with h0 | ⟨g, cap, cur, hv, hB, rest⟩
  · exact .inl h0
  · exact .inr ⟨g, cap, cur, hv, Nat.le_trans h.bel.size hB, rest⟩
end
end Go.Proofs.YtjkbfhojjjkgnaaDoor
