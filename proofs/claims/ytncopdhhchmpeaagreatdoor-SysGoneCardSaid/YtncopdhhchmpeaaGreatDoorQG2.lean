/-
  Pa6, Pa7, Wy, Pa8, Pa9, PaN, Ca, Ca2, Ca3, Ca4, Me, Me2, Me3, Me4, Mf, Mg, Bk4, Bk5, Bk6, Bk7, Bk8, Bk9, BkA, BkD, Ds2, Ds3, Ds4, BkP, BkE, BkF, BkQ: what SysGone reaches of them.
-/
import Derived.Test.YtncopdhhchmpeaaGreatDoorQG1
namespace Go.Proofs.YtncopdhhchmpeaaGreatDoor
open Go.ChangeShapes Go.WideShapes Go.ChangeAt Go.RowKit
set_option linter.unusedVariables false
/-- A store's blocks lie below N. -/
structure StLo (S : Nat) (a b : Shp) (N : Nat) : Prop where
  s : S < N
  n : a.P < N ∧ a.p < N ∧ a.B < N ∧ a.G < N
  p : b.P < N ∧ b.p < N ∧ b.B < N ∧ b.G < N
section
variable {w0 w w' : World} {S : Nat} {a b : Shp} {th : Nat → Bool} {vr_ : Nat → Int} {W : Nat → Nat → Value} {th2 : Nat → Bool} {vr2 : Nat → Int} {W2 : Nat → Nat → Int} {N : Nat}
theorem StAt.lo (h : (StAt w S a b th vr_ W th2 vr2 W2)) : StLo S a b w.heap.size := ⟨h.sl, ⟨h.nd.pl, h.nd.ar.pl, h.nd.ar.lt.2, (h.nd.row.lt a.G rfl).2⟩, ⟨h.pg.pl, h.pg.ar.pl, h.pg.ar.lt.2, (h.pg.row.lt b.G rfl).2⟩⟩
theorem StLo.mono {M : Nat} (h : StLo S a b N) (hm : N ≤ M) : StLo S a b M := by
  have h1 := h.s
  have h2 := h.n
  have h3 := h.p
  exact ⟨by omega, by omega, by omega⟩
theorem StAt.under (h : (StAt w S a b th vr_ W th2 vr2 W2)) (hl : StLo S a b N) (hs : w.heap.size ≤ w'.heap.size) (hk : ∀ k, k < N → w'.heap[k]? = w.heap[k]?) : (StAt w' S a b th vr_ W th2 vr2 W2) := by
  have hS := hk S hl.s
  refine ⟨(World.cell?_of_block (a := ⟨S, 0, none⟩) hS).trans h.s0, (World.cell?_of_block (a := ⟨S, 1, none⟩) hS).trans h.s1, Nat.lt_of_lt_of_le h.sl hs, ?_, ?_, h.ab, h.hi, h.hs⟩
  · exact h.nd.same hs (hk _ hl.n.1) (hk _ hl.n.2.1) (hk _ hl.n.2.2.1) (hk _ hl.n.2.2.2)
  · exact h.pg.same hs (hk _ hl.p.1) (hk _ hl.p.2.1) (hk _ hl.p.2.2.1) (hk _ hl.p.2.2.2)
theorem set_heap (w : World) (g k j : Nat) (u : Value) (h : k ≠ g) : (w.setCell ⟨g, j, none⟩ u).heap[k]? = w.heap[k]? := Below.heap_setCell _ _ _ _ h
theorem SV.put1 (h : SV w0 w S a b th vr_ W th2 vr2 W2) (hl : StLo S a b N) (g j : Nat) (hg : N ≤ g) (h0 : w0.heap.size ≤ N) (u : Value) : SV w0 (w.setCell ⟨g, j, none⟩ u) S a b th vr_ W th2 vr2 W2 :=
  ⟨h.bel.setCell (Nat.le_trans h0 hg) _, h.wb, h.st.under hl (by simp) (fun k hk => set_heap _ _ _ _ _ (by omega))⟩
end
/-- A way that ends well is one in a store that has more nodes. -/
theorem Way.more {a b : Shp} {th th' : Nat → Bool} {vr_ : Nat → Int} {W W' : Nat → Nat → Value} {th2 : Nat → Bool} {vr2 : Nat → Int} (hn : ∀ i, i < a.n → th i = true → th' i = true ∧ ∀ j y0 y1 y2 y3 y4, KAt (W i) j y0 y1 y2 y3 y4 → KAt (W' i) j y0 y1 y2 y3 y4)
    {k0 k1 k2 k3 k4 below addr : Int} {ro : Bool} {ids : List Int} {pg at_ : Int} {r : Bool} {f : Int} (h : Way a b th vr_ W th2 vr2 k0 k1 k2 k3 k4 below addr ro ids pg at_ r f) (hf : f = 0) : Way a b th' vr_ W' th2 vr2 k0 k1 k2 k3 k4 below addr ro ids pg at_ r f := by
  induction h with
  | fault s t l f h0 hs hl hz hf' => subst hf; simp at hf'
  | page h0 a0 hl ha => exact .page h0 a0 hl ha
  | node h i q r' p ad y0 y1 y2 y3 y4 hk hp ha had h1 h4 hl hd hi hn' ht hq hr hy next ih =>
    have hx := hn i hn' ht
    refine .node h i q r' p ad y0 y1 y2 y3 y4 hk hp ha had h1 h4 ?_ hd hi hn' hx.1 hq hr (hx.2 _ _ _ _ _ _ hy) (ih hf)
    subst hi
    simp [liveB, thereB, ht, hx.1] at hl ⊢
    exact hl
/-- The two errors that a key's test names. -/
theorem errs2 {l : List (String × DataW Unit)} {w : World} (h : laidMet Tryz.prog l w) (h1 : ∃ t, ("turnkey/api.ErrShape", DataW.iface "*errors.errorString" (.ptr (.agg [.lit (.string t)]))) ∈ l) (h2 : ∃ t, ("turnkey/api.ErrRange", DataW.iface "*errors.errorString" (.ptr (.agg [.lit (.string t)]))) ∈ l) : ∃ vs vr, ErrsAt vs vr w := by
  obtain ⟨t1, h1⟩ := h1
  obtain ⟨t2, h2⟩ := h2
  have E := errs_are (gs := [6, 1]) h (by
    intro g hg
    simp at hg
    rcases hg with rfl | rfl
    · exact ⟨_, t1, h1, gErrShape, tErrShape⟩
    · exact ⟨_, t2, h2, gErrRange, tErrRange⟩)
  obtain ⟨s1, s2, -⟩ := E.1 6 (by simp)
  obtain ⟨r1, r2, -⟩ := E.1 1 (by simp)
  exact ⟨_, _, s1, r1, s2, r2⟩
end Go.Proofs.YtncopdhhchmpeaaGreatDoor
namespace Go.Proofs.YtncopdhhchmpeaaGreatDoor
open Go.ChangeShapes Go.WideShapes Go.ChangeAt Go.RowKit
set_option linter.unusedVariables false
/-- Node i of some: each slot holds a key. -/
def All16 (f : Nat → Value) : Prop := ∀ j, j < 16 → ∃ y0 y1 y2 y3 y4, KAt f j y0 y1 y2 y3 y4
theorem All16.one {f : Nat → Value} (h : All16 f) : ∀ b, b < 80 → (f b).oneCell' = true := KAt.one h
theorem All16.set {W : Nat → Nat → Value} {i : Nat} (h : All16 (W i)) (k s : Nat) (y0 y1 y2 y3 y4 : Int) : All16 (updV W k (s * 5) (k5 y0 y1 y2 y3 y4) i) := fun j hj => by
  by_cases e : i = k ∧ j = s
  · obtain ⟨rfl, rfl⟩ := e
    exact ⟨_, _, _, _, _, updV_key W i j y0 y1 y2 y3 y4⟩
  · obtain ⟨x0, x1, x2, x3, x4, hx⟩ := h j hj
    exact ⟨x0, x1, x2, x3, x4, updV_rest W k s i j y0 y1 y2 y3 y4 e hx⟩
theorem All16.fresh (W : Nat → Nat → Value) (i : Nat) (kk : Nat → Nat → Int) : All16 (freshV W i (kcs kk 0) i) := fun j hj => ⟨_, _, _, _, _, freshV_nokey W i kk 0 j (Nat.zero_le _) hj⟩
theorem All16.rest {W : Nat → Nat → Value} {a : Nat} (h : All16 (W a)) (i : Nat) (xs : List Value) (hne : a ≠ i) : All16 (freshV W i xs a) := fun j hj => by
  obtain ⟨x0, x1, x2, x3, x4, hx⟩ := h j hj
  exact ⟨x0, x1, x2, x3, x4, freshV_rest W i xs a j hne hx⟩
theorem fit64 {a : Int} (h : (Lit.int .i64 a).wf = true) : -9223372036854775808 ≤ a ∧ a ≤ 9223372036854775807 := by simpa [Lit.wf, IntKind.min, IntKind.max, IntKind.signed, IntKind.bits] using h
end Go.Proofs.YtncopdhhchmpeaaGreatDoor
namespace Go.Proofs.YtncopdhhchmpeaaGreatDoor
open Go.ChangeShapes Go.WideShapes Go.ChangeAt Go.RowKit
set_option linter.unusedVariables false
section
variable {a b : Shp} {th : Nat → Bool} {vr_ : Nat → Int} {W : Nat → Nat → Value} {th2 : Nat → Bool} {vr2 : Nat → Int}
/-- All addresses of one page's words go one way. -/
theorem Way.sheet {k0 k1 k2 k3 k4 below addr : Int} {ro : Bool} {ids : List Int} {pg at_ : Int} {r : Bool} {f : Int} (h : Way a b th vr_ W th2 vr2 k0 k1 k2 k3 k4 below addr ro ids pg at_ r f) (hf : f = 0) : at_ = addr % 32 ∧ ∀ x : Int, 0 ≤ x → x < 32 → Way a b th vr_ W th2 vr2 k0 k1 k2 k3 k4 below (addr / 32 * 32 + x) ro ids pg x r f := by
  induction h with
  | fault s t l f h0 hs hl hz hf' => subst hf; simp at hf'
  | page h0 a0 hl ha =>
    refine ⟨by omega, fun x x0 x1 => ?_⟩
    rename_i addr' _
    rw [show addr' / 32 * 32 + x = x by omega]
    exact .page h0 x0 hl x1
  | node h i q r0 p ad y0 y1 y2 y3 y4 hk hp ha had h1 h4 hl hd hi hn ht hq hr hy next ih =>
    obtain ⟨e, g⟩ := ih hf
    obtain ⟨c, hc⟩ : ∃ c, p = c * 32 := by
      have h5 : h = 1 ∨ h = 2 ∨ h = 3 ∨ h = 4 := by omega
      rcases h5 with rfl | rfl | rfl | rfl
      · exact ⟨1, by rw [hp]⟩
      · exact ⟨16, by rw [hp]⟩
      · exact ⟨256, by rw [hp]⟩
      · exact ⟨4096, by rw [hp]⟩
    have hqp : q * p = q * c * 32 := by rw [hc, Nat.mul_assoc]
    obtain ⟨u, hu⟩ : ∃ u, q * c = u := ⟨_, rfl⟩
    rw [hu] at hqp
    refine ⟨by omega, fun x x0 x1 => ?_⟩
    have gx := g x x0 x1
    obtain ⟨y, rfl⟩ := Int.eq_ofNat_of_zero_le x0
    rw [show ((r0 : Nat) : Int) / 32 * 32 + ((y : Nat) : Int) = ((r0 / 32 * 32 + y : Nat) : Int) by omega] at gx
    refine .node h i q (r0 / 32 * 32 + y) p (q * p + (r0 / 32 * 32 + y)) y0 y1 y2 y3 y4 hk hp ?_ rfl h1 h4 hl hd hi hn ht hq (by omega) hy gx
    rw [ha, had]
    omega
/-- Nodes that a way does not go through may be turned. -/
theorem Way.keep {th' : Nat → Bool} {W' : Nat → Nat → Value} {k0 k1 k2 k3 k4 below addr : Int} {ro : Bool} {ids : List Int} {pg at_ : Int} {r : Bool} {f : Int} (h : Way a b th vr_ W th2 vr2 k0 k1 k2 k3 k4 below addr ro ids pg at_ r f) (hf : f = 0)
    (hn : ∀ i : Nat, (i : Int) ∈ ids → i < a.n → th i = true → th' i = true ∧ ∀ j y0 y1 y2 y3 y4, KAt (W i) j y0 y1 y2 y3 y4 → KAt (W' i) j y0 y1 y2 y3 y4) : Way a b th' vr_ W' th2 vr2 k0 k1 k2 k3 k4 below addr ro ids pg at_ r f := by
  induction h with
  | fault s t l f h0 hs hl hz hf' => subst hf; simp at hf'
  | page h0 a0 hl ha => exact .page h0 a0 hl ha
  | node h i q r0 p ad y0 y1 y2 y3 y4 hk hp ha had h1 h4 hl hd hi hn' ht hq hr hy next ih =>
    have hx := hn i (by rw [hi]; exact .head _) hn' ht
    refine .node h i q r0 p ad y0 y1 y2 y3 y4 hk hp ha had h1 h4 ?_ hd hi hn' hx.1 hq hr (hx.2 _ _ _ _ _ _ hy) (ih hf (fun j hj => hn j (.tail _ hj)))
    subst hi
    simp [liveB, thereB, ht, hx.1] at hl ⊢
    exact hl
end
end Go.Proofs.YtncopdhhchmpeaaGreatDoor
namespace Go.Proofs.YtncopdhhchmpeaaGreatDoor
open Go.ChangeShapes Go.WideShapes Go.ChangeAt Go.RowKit
set_option linter.unusedVariables false
set_option linter.unusedSimpArgs false
/-- A slice of numbers, of one's own, in a variable that is caught. -/
structure IdAt (W0 w : World) (ib : Nat) (v : Value) (l : List Int) : Prop where
  bel : Below W0.heap.size W0 w
  ib0 : W0.heap.size ≤ ib
  ibl : ib < w.heap.size
  c : w.cell? ⟨ib, 0, none⟩ = some v
  fr : w.frozen? ⟨ib, 0, none⟩ = false
  row : w.ownsRow W0.heap.size 3 1 v l.length (l.map (Value.int .i64))
  ne : ∀ g, v.ownBlock = some g → g ≠ ib
theorem IdAt.same {W0 w w' : World} {ib : Nat} {v : Value} {l : List Int} (h : IdAt W0 w ib v l) (hb : Below W0.heap.size W0 w') (hs : w.heap.size ≤ w'.heap.size) (h1 : w'.heap[ib]? = w.heap[ib]?) (h2 : ∀ g, v.ownBlock = some g → w'.heap[g]? = w.heap[g]?) : IdAt W0 w' ib v l :=
  ⟨hb, h.ib0, Nat.lt_of_lt_of_le h.ibl hs, (World.cell?_of_block (a := ⟨ib, 0, none⟩) h1).trans h.c, (World.frozen?_of_block (a := ⟨ib, 0, none⟩) h1).trans h.fr, row_same' h.row h2, h.ne⟩
theorem IdAt.below {W0 w w' : World} {ib : Nat} {v : Value} {l : List Int} (h : IdAt W0 w ib v l) (hb : Below w.heap.size w w') : IdAt W0 w' ib v l :=
  h.same (h.bel.trans (hb.mono h.bel.size)) hb.size (hb.block ib h.ibl) (fun g hg => hb.block g (h.row.lt g hg).2)
theorem IdAt.put {W0 w : World} {ib : Nat} {v : Value} {l : List Int} (h : IdAt W0 w ib v l) (g j : Nat) (h1 : ib ≠ g) (h2 : v.ownBlock ≠ some g) (h0 : W0.heap.size ≤ g) (u : Value) : IdAt W0 (w.setCell ⟨g, j, none⟩ u) ib v l :=
  h.same (h.bel.setCell h0 _) (by simp) (set_heap _ _ _ _ _ h1) (fun k hk => set_heap _ _ _ _ _ (fun e => h2 (by rw [hk, e])))
/-- The row lies in no box of the walk. -/
def OwnFar (v : Value) (n : Nat) : Prop := v.ownBlock ≠ some (n + 1 + 1) ∧ v.ownBlock ≠ some (n + 1)
theorem OwnFar.next {v v' : Value} {n m : Nat} (h : OwnFar v n) (hm : n + 1 + 1 < m) (hv : v'.ownBlock = v.ownBlock ∨ ∃ g, m ≤ g ∧ v'.ownBlock = some g) : OwnFar v' n := by
  rcases hv with e | ⟨g, hg, e⟩
  · unfold OwnFar; rw [e]; exact h
  · unfold OwnFar; rw [e]; exact ⟨fun x => by injection x with x; omega, fun x => by injection x with x; omega⟩
theorem PlC.same {w w' : World} {b : Nat} {x y : Int} {r : Bool} (h : PlC w b x y r) (hs : w.heap.size ≤ w'.heap.size) (e : w'.heap[b]? = w.heap[b]?) : PlC w' b x y r :=
  ⟨Nat.lt_of_lt_of_le h.lt hs, (World.cell?_of_block (a := ⟨b, 0, none⟩) e).trans h.c0, (World.cell?_of_block (a := ⟨b, 1, none⟩) e).trans h.c1, (World.cell?_of_block (a := ⟨b, 2, none⟩) e).trans h.c2, fun j => (World.frozen?_of_block (a := ⟨b, j, none⟩) e).trans (h.fr j)⟩
end Go.Proofs.YtncopdhhchmpeaaGreatDoor
namespace Go.Proofs.YtncopdhhchmpeaaGreatDoor
open Go.ChangeShapes Go.WideShapes Go.ChangeAt Go.RowKit
set_option linter.unusedVariables false
set_option linter.unusedSimpArgs false
end Go.Proofs.YtncopdhhchmpeaaGreatDoor
namespace Go.Proofs.YtncopdhhchmpeaaGreatDoor
open Go.ChangeShapes Go.WideShapes Go.ChangeAt Go.RowKit
set_option linter.unusedVariables false
end Go.Proofs.YtncopdhhchmpeaaGreatDoor
namespace Go.Proofs.YtncopdhhchmpeaaGreatDoor
open Go.ChangeShapes Go.WideShapes Go.ChangeAt Go.RowKit
set_option linter.unusedVariables false
/-- A way that is remembered: from which root, which sheet; where it leads; through which nodes. -/
structure EW where
  k0 : Int
  k1 : Int
  k2 : Int
  k3 : Int
  k4 : Int
  sh : Int
  pg : Int
  at_ : Int
  ro : Bool
  ids : List Int
  na : Option Addr
  nc : Nat
/-- Its cells. -/
def EW.cs (e : EW) : List Value := [.int .i64 e.k0, .int .i64 e.k1, .int .i64 e.k2, .int .i64 e.k3, .int .u32 e.k4, .int .u32 e.sh, .int .i64 e.pg, .int .i64 e.at_, .bool e.ro, .slice e.na e.ids.length e.nc]
/-- The numbers of its nodes lie in a row apart. -/
def NodesIn (w : World) (N cb : Nat) (v : Value) (e : EW) : Prop := ∀ i, i < e.ids.length → ∃ g o, e.na = some ⟨g, o, none⟩ ∧ N ≤ g ∧ g < w.heap.size ∧ g ≠ cb ∧ v.ownBlock ≠ some g ∧ w.cell? ⟨g, o + i, none⟩ = some (.int .i64 (e.ids.getD i 0))
def ewCells (E : List EW) : List Value := E.flatMap EW.cs
structure CacheAt (w : World) (N cb : Nat) (size hits : Int) (v : Value) (E : List EW) : Prop where
  nb : N ≤ cb
  cl : cb < w.heap.size
  c0 : w.cell? ⟨cb, 0, none⟩ = some (.int .i64 size)
  c1 : w.cell? ⟨cb, 1, none⟩ = some (.int .i64 hits)
  c2 : w.cell? ⟨cb, 2, none⟩ = some v
  fr : ∀ j, w.frozen? ⟨cb, j, none⟩ = false
  row : w.ownsRow N 253 10 v E.length (ewCells E)
  ne : v.ownBlock ≠ some cb
  nd : ∀ e, e ∈ E → NodesIn w N cb v e
theorem CacheAt.same {w w' : World} {N cb : Nat} {size hits : Int} {v : Value} {E : List EW} (h : CacheAt w N cb size hits v E) (hs : w.heap.size ≤ w'.heap.size) (hk : ∀ k, N ≤ k → k < w.heap.size → w'.heap[k]? = w.heap[k]?) : CacheAt w' N cb size hits v E := by
  have e := hk cb h.nb h.cl
  refine ⟨h.nb, Nat.lt_of_lt_of_le h.cl hs, (World.cell?_of_block (a := ⟨cb, 0, none⟩) e).trans h.c0, (World.cell?_of_block (a := ⟨cb, 1, none⟩) e).trans h.c1, (World.cell?_of_block (a := ⟨cb, 2, none⟩) e).trans h.c2, fun j => (World.frozen?_of_block (a := ⟨cb, j, none⟩) e).trans (h.fr j), row_same' h.row (fun g hg => hk g (h.row.lt g hg).1 (h.row.lt g hg).2), h.ne, fun e he i hi => ?_⟩
  obtain ⟨g, o, h1, h2, h3, h4, h5, h6⟩ := h.nd e he i hi
  exact ⟨g, o, h1, h2, Nat.lt_of_lt_of_le h3 hs, h4, h5, (World.cell?_of_block (a := ⟨g, o + i, none⟩) (hk g h2 h3)).trans h6⟩
theorem CacheAt.below {w w' : World} {N cb : Nat} {size hits : Int} {v : Value} {E : List EW} (h : CacheAt w N cb size hits v E) (hb : Below w.heap.size w w') : CacheAt w' N cb size hits v E :=
  h.same hb.size (fun k _ hk => hb.block k hk)
theorem EW.cs_len (e : EW) : e.cs.length = 10 := rfl
theorem ewCells_get : ∀ (E : List EW) (k q : Nat) (e : EW), E[k]? = some e → q < 10 → (ewCells E)[k * 10 + q]? = e.cs[q]? := by
  intro E
  induction E with
  | nil => intro k q e h; simp at h
  | cons d E ih =>
    intro k q e h hq
    have hd := d.cs_len
    show (d.cs ++ ewCells E)[k * 10 + q]? = _
    cases k with
    | zero =>
      simp at h
      subst h
      rw [Nat.zero_mul, Nat.zero_add, List.getElem?_append_left (by omega)]
    | succ k =>
      simp at h
      rw [List.getElem?_append_right (by rw [hd]; omega), hd, show (k + 1) * 10 + q - 10 = k * 10 + q by omega]
      exact ih k q e h hq
theorem CacheAt.way {w : World} {N cb : Nat} {size hits : Int} {v : Value} {E : List EW} (h : CacheAt w N cb size hits v E) {g n c : Nat} (hv : v = .slice (some ⟨g, 0, none⟩) n c) (k : Nat) (e : EW) (he : E[k]? = some e) :
    w.cell? ⟨g, k * 10, none⟩ = some (.int .i64 e.k0) ∧ w.cell? ⟨g, k * 10 + 1, none⟩ = some (.int .i64 e.k1) ∧ w.cell? ⟨g, k * 10 + 2, none⟩ = some (.int .i64 e.k2) ∧ w.cell? ⟨g, k * 10 + 3, none⟩ = some (.int .i64 e.k3) ∧ w.cell? ⟨g, k * 10 + 4, none⟩ = some (.int .u32 e.k4) ∧ w.cell? ⟨g, k * 10 + 5, none⟩ = some (.int .u32 e.sh) ∧ w.cell? ⟨g, k * 10 + 6, none⟩ = some (.int .i64 e.pg) ∧ w.cell? ⟨g, k * 10 + 7, none⟩ = some (.int .i64 e.at_) ∧ w.cell? ⟨g, k * 10 + 8, none⟩ = some (.bool e.ro) ∧ w.cell? ⟨g, k * 10 + 9, none⟩ = some (.slice e.na e.ids.length e.nc) := by
  obtain ⟨a', c', hsh⟩ := own_shape' h.row
  have hn : n = E.length := by rw [hv] at hsh; injection hsh
  subst hv
  subst hn
  have hk : k < E.length := by
    rcases Nat.lt_or_ge k E.length with h' | h'
    · exact h'
    · rw [List.getElem?_eq_none h'] at he; cases he
  have hl := h.row.1
  have cell : ∀ q u, q < 10 → e.cs[q]? = some u → w.cell? ⟨g, k * 10 + q, none⟩ = some u := fun q u hq hu => by
    have hx : k * 10 + q < (ewCells E).length := by rw [hl]; omega
    have e1 := h.row.cellAt (k * 10 + q) (by omega)
    have e2 := ewCells_get E k q e he hq
    rw [e1, e2, hu]
  exact ⟨cell 0 _ (by decide) rfl, cell 1 _ (by decide) rfl, cell 2 _ (by decide) rfl, cell 3 _ (by decide) rfl, cell 4 _ (by decide) rfl, cell 5 _ (by decide) rfl, cell 6 _ (by decide) rfl, cell 7 _ (by decide) rfl, cell 8 _ (by decide) rfl, cell 9 _ (by decide) rfl⟩
/-- Each remembered way is one. -/
def WaysOk (a b : Shp) (th : Nat → Bool) (vr_ : Nat → Int) (W : Nat → Nat → Value) (th2 : Nat → Bool) (vr2 : Nat → Int) (E : List EW) : Prop :=
  ∀ e, e ∈ E → 0 ≤ e.sh ∧ ∀ x : Int, 0 ≤ x → x < 32 → Way a b th vr_ W th2 vr2 e.k0 e.k1 e.k2 e.k3 e.k4 5 (e.sh * 32 + x) false e.ids e.pg x e.ro 0
set_option maxRecDepth 100000 in
theorem cnew_ok (x : Int) (h1 : 1 ≤ x) (h2 : x ≤ 64) (w : World) :
    Calls Tryz.prog 167 #[.int .i64 x] w fun e w' => ∃ cb, e = .returned (.tuple #[.pointer (some ⟨cb, 0, none⟩), .nilIface]) ∧ CacheAt w' w.heap.size cb x 0 (.slice none 0 0) [] ∧ Below w.heap.size w w' := by
  have d1 : decide (x < 1) = false := decide_eq_false (by omega)
  have d2 : decide (64 < x) = false := decide_eq_false (by omega)
  go_enter Tryz.func167, Tryz.ntmps167
  go_wp2_with fail
  go_ret2
  exact ⟨_, rfl, ⟨Nat.le_refl _, by simp, by simp, by simp, by simp, fun j => by simp, World.ownsRow_nil _ _ _ _, by simp [Value.ownBlock], fun e he => by cases he⟩, (Below.refl _ _).alloc (Nat.le_refl _) _⟩
end Go.Proofs.YtncopdhhchmpeaaGreatDoor
namespace Go.Proofs.YtncopdhhchmpeaaGreatDoor
open Go.ChangeShapes Go.WideShapes Go.ChangeAt Go.RowKit
set_option linter.unusedVariables false
set_option linter.unusedSimpArgs false
/-- Is it the way from there? -/
abbrev EW.is (e : EW) (f0 f1 f2 f3 f4 f5 : Int) : Bool := e.k0 == f0 && (e.k1 == f1 && (e.k2 == f2 && (e.k3 == f3 && (e.k4 == f4 && e.sh == f5))))
/-- An origin lies there. -/
structure FromAt (w : World) (fb : Nat) (f0 f1 f2 f3 f4 f5 : Int) : Prop where
  lt : fb < w.heap.size
  c0 : w.cell? ⟨fb, 0, none⟩ = some (.int .i64 f0)
  c1 : w.cell? ⟨fb, 1, none⟩ = some (.int .i64 f1)
  c2 : w.cell? ⟨fb, 2, none⟩ = some (.int .i64 f2)
  c3 : w.cell? ⟨fb, 3, none⟩ = some (.int .i64 f3)
  c4 : w.cell? ⟨fb, 4, none⟩ = some (.int .u32 f4)
  c5 : w.cell? ⟨fb, 5, none⟩ = some (.int .u32 f5)
theorem FromAt.same {w w' : World} {fb : Nat} {f0 f1 f2 f3 f4 f5 : Int} (h : FromAt w fb f0 f1 f2 f3 f4 f5) (hs : w.heap.size ≤ w'.heap.size) (e : w'.heap[fb]? = w.heap[fb]?) : FromAt w' fb f0 f1 f2 f3 f4 f5 :=
  ⟨Nat.lt_of_lt_of_le h.lt hs, (World.cell?_of_block (a := ⟨fb, 0, none⟩) e).trans h.c0, (World.cell?_of_block (a := ⟨fb, 1, none⟩) e).trans h.c1, (World.cell?_of_block (a := ⟨fb, 2, none⟩) e).trans h.c2, (World.cell?_of_block (a := ⟨fb, 3, none⟩) e).trans h.c3, (World.cell?_of_block (a := ⟨fb, 4, none⟩) e).trans h.c4, (World.cell?_of_block (a := ⟨fb, 5, none⟩) e).trans h.c5⟩
theorem FromAt.below {w w' : World} {fb : Nat} {f0 f1 f2 f3 f4 f5 : Int} (h : FromAt w fb f0 f1 f2 f3 f4 f5) (hb : Below w.heap.size w w') : FromAt w' fb f0 f1 f2 f3 f4 f5 :=
  ⟨Nat.lt_of_lt_of_le h.lt hb.size, (hb.cell (p := ⟨fb, 0, none⟩) h.lt).trans h.c0, (hb.cell (p := ⟨fb, 1, none⟩) h.lt).trans h.c1, (hb.cell (p := ⟨fb, 2, none⟩) h.lt).trans h.c2, (hb.cell (p := ⟨fb, 3, none⟩) h.lt).trans h.c3, (hb.cell (p := ⟨fb, 4, none⟩) h.lt).trans h.c4, (hb.cell (p := ⟨fb, 5, none⟩) h.lt).trans h.c5⟩
theorem CacheAt.shape {w : World} {N cb : Nat} {size hits : Int} {v : Value} {E : List EW} (h : CacheAt w N cb size hits v E) : ∃ a c, v = .slice a E.length c := own_shape' h.row
end Go.Proofs.YtncopdhhchmpeaaGreatDoor
namespace Go.Proofs.YtncopdhhchmpeaaGreatDoor
open Go.ChangeShapes Go.WideShapes Go.ChangeAt Go.RowKit
set_option linter.unusedVariables false
set_option linter.unusedSimpArgs false
section
variable {P : Program}
end
/-- All blocks but the cache's own are as they were. -/
def KeepB (w w' : World) (cb : Nat) (v : Value) : Prop := w.heap.size ≤ w'.heap.size ∧ ∀ k, k < w.heap.size → k ≠ cb → v.ownBlock ≠ some k → w'.heap[k]? = w.heap[k]?
/-- A way in a box. -/
structure WayAt (w : World) (b : Nat) (d : EW) : Prop where
  lt : b < w.heap.size
  c0 : w.cell? ⟨b, 0, none⟩ = some (.int .i64 d.k0)
  c1 : w.cell? ⟨b, 1, none⟩ = some (.int .i64 d.k1)
  c2 : w.cell? ⟨b, 2, none⟩ = some (.int .i64 d.k2)
  c3 : w.cell? ⟨b, 3, none⟩ = some (.int .i64 d.k3)
  c4 : w.cell? ⟨b, 4, none⟩ = some (.int .u32 d.k4)
  c5 : w.cell? ⟨b, 5, none⟩ = some (.int .u32 d.sh)
  c6 : w.cell? ⟨b, 6, none⟩ = some (.int .i64 d.pg)
  c7 : w.cell? ⟨b, 7, none⟩ = some (.int .i64 d.at_)
  c8 : w.cell? ⟨b, 8, none⟩ = some (.bool d.ro)
  c9 : w.cell? ⟨b, 9, none⟩ = some (.slice d.na d.ids.length d.nc)
theorem WayAt.same {w w' : World} {b : Nat} {d : EW} (h : WayAt w b d) (hs : w.heap.size ≤ w'.heap.size) (e : w'.heap[b]? = w.heap[b]?) : WayAt w' b d :=
  ⟨Nat.lt_of_lt_of_le h.lt hs, (World.cell?_of_block (a := ⟨b, 0, none⟩) e).trans h.c0, (World.cell?_of_block (a := ⟨b, 1, none⟩) e).trans h.c1, (World.cell?_of_block (a := ⟨b, 2, none⟩) e).trans h.c2, (World.cell?_of_block (a := ⟨b, 3, none⟩) e).trans h.c3, (World.cell?_of_block (a := ⟨b, 4, none⟩) e).trans h.c4, (World.cell?_of_block (a := ⟨b, 5, none⟩) e).trans h.c5, (World.cell?_of_block (a := ⟨b, 6, none⟩) e).trans h.c6, (World.cell?_of_block (a := ⟨b, 7, none⟩) e).trans h.c7, (World.cell?_of_block (a := ⟨b, 8, none⟩) e).trans h.c8, (World.cell?_of_block (a := ⟨b, 9, none⟩) e).trans h.c9⟩
theorem WayAt.below {w w' : World} {b : Nat} {d : EW} (h : WayAt w b d) (hb : Below w.heap.size w w') : WayAt w' b d := h.same hb.size (hb.block b h.lt)
theorem WayAt.new (w : World) (d : EW) (T : TypeId) : WayAt (w.alloc (.cells #[.int .i64 d.k0, .int .i64 d.k1, .int .i64 d.k2, .int .i64 d.k3, .int .u32 d.k4, .int .u32 d.sh, .int .i64 d.pg, .int .i64 d.at_, .bool d.ro, .slice d.na d.ids.length d.nc] T (0, 0))) w.heap.size d := ⟨by simp, by simp, by simp, by simp, by simp, by simp, by simp, by simp, by simp, by simp, by simp⟩
theorem WayAt.all {w : World} {b : Nat} {d : EW} (h : WayAt w b d) : (World.cell? w ⟨b, 0, none⟩ = some (.int .i64 d.k0) ∧ World.cell? w ⟨b, 1, none⟩ = some (.int .i64 d.k1) ∧ World.cell? w ⟨b, 2, none⟩ = some (.int .i64 d.k2) ∧ World.cell? w ⟨b, 3, none⟩ = some (.int .i64 d.k3) ∧ World.cell? w ⟨b, 4, none⟩ = some (.int .u32 d.k4) ∧ World.cell? w ⟨b, 5, none⟩ = some (.int .u32 d.sh) ∧ World.cell? w ⟨b, 6, none⟩ = some (.int .i64 d.pg) ∧ World.cell? w ⟨b, 7, none⟩ = some (.int .i64 d.at_) ∧ World.cell? w ⟨b, 8, none⟩ = some (.bool d.ro) ∧ World.cell? w ⟨b, 9, none⟩ = some (.slice d.na d.ids.length d.nc)) := ⟨h.c0, h.c1, h.c2, h.c3, h.c4, h.c5, h.c6, h.c7, h.c8, h.c9⟩
end Go.Proofs.YtncopdhhchmpeaaGreatDoor
namespace Go.Proofs.YtncopdhhchmpeaaGreatDoor
open Go.ChangeShapes Go.WideShapes Go.ChangeAt Go.RowKit
set_option linter.unusedVariables false
set_option linter.unusedSimpArgs false
/-- No way's numbers lie in block x. -/
def NoNode (E : List EW) (x : Nat) : Prop := ∀ e, e ∈ E → 0 < e.ids.length → ∀ g o, e.na = some ⟨g, o, none⟩ → g ≠ x
theorem KeyC.same' {w w' : World} {b : Nat} {k0 k1 k2 k3 k4 : Int} (h : KeyC w b k0 k1 k2 k3 k4) (hs : w.heap.size ≤ w'.heap.size) (e : w'.heap[b]? = w.heap[b]?) : KeyC w' b k0 k1 k2 k3 k4 :=
  ⟨Nat.lt_of_lt_of_le h.lt hs, (World.cell?_of_block (a := ⟨b, 0, none⟩) e).trans h.c0, (World.cell?_of_block (a := ⟨b, 1, none⟩) e).trans h.c1, (World.cell?_of_block (a := ⟨b, 2, none⟩) e).trans h.c2, (World.cell?_of_block (a := ⟨b, 3, none⟩) e).trans h.c3, (World.cell?_of_block (a := ⟨b, 4, none⟩) e).trans h.c4, fun j => (World.frozen?_of_block (a := ⟨b, j, none⟩) e).trans (h.fr j)⟩
theorem CacheAt.put {w : World} {N cb : Nat} {size hits : Int} {v : Value} {E : List EW} (h : CacheAt w N cb size hits v E) (x j : Nat) (h1 : cb ≠ x) (h2 : v.ownBlock ≠ some x) (h3 : ∀ e, e ∈ E → 0 < e.ids.length → ∀ g o, e.na = some ⟨g, o, none⟩ → g ≠ x) (u : Value) : CacheAt (w.setCell ⟨x, j, none⟩ u) N cb size hits v E := by
  have e := set_heap w x cb j u h1
  refine ⟨h.nb, by simpa using h.cl, (World.cell?_of_block (a := ⟨cb, 0, none⟩) e).trans h.c0, (World.cell?_of_block (a := ⟨cb, 1, none⟩) e).trans h.c1, (World.cell?_of_block (a := ⟨cb, 2, none⟩) e).trans h.c2, fun j => (World.frozen?_of_block (a := ⟨cb, j, none⟩) e).trans (h.fr j), row_same' h.row (fun g hg => set_heap _ _ _ _ _ (fun e => h2 (by rw [hg, e]))), h.ne, fun d hd i hi => ?_⟩
  obtain ⟨g, o, a1, a2, a3, a4, a5, a6⟩ := h.nd d hd i hi
  exact ⟨g, o, a1, a2, by simpa using a3, a4, a5, (World.cell?_of_block (a := ⟨g, o + i, none⟩) (set_heap _ _ _ _ _ (h3 d hd (by omega) g o a1))).trans a6⟩
end Go.Proofs.YtncopdhhchmpeaaGreatDoor
namespace Go.Proofs.YtncopdhhchmpeaaGreatDoor
open Go.ChangeShapes Go.WideShapes Go.ChangeAt Go.RowKit
set_option linter.unusedVariables false
set_option linter.unusedSimpArgs false
/-- A block that is none of the cache's. -/
def OutC (cb : Nat) (v : Value) (x : Nat) : Prop := x ≠ cb ∧ v.ownBlock ≠ some x
theorem OutC.next {cb : Nat} {v v' : Value} {x M : Nat} (h : OutC cb v x) (hx : x < M) (hv : v'.ownBlock = v.ownBlock ∨ ∃ g, M ≤ g ∧ v'.ownBlock = some g) : OutC cb v' x := by
  refine ⟨h.1, fun e => ?_⟩
  rcases hv with e' | ⟨g, hg, e'⟩
  · exact h.2 (by rw [← e', e])
  · rw [e'] at e; injection e with e; omega
/-- A memory over a law's start: a store, a cache over it. -/
structure MemAt (w0 w : World) (mb S : Nat) (a b : Shp) (N cb : Nat) (size : Int) (th : Nat → Bool) (vr_ : Nat → Int) (W : Nat → Nat → Value) (th2 : Nat → Bool) (vr2 : Nat → Int) (W2 : Nat → Nat → Int) (hits : Int) (v : Value) (E : List EW) : Prop where
  sv : SV w0 w S a b th vr_ W th2 vr2 W2
  lo : StLo S a b N
  n0 : w0.heap.size ≤ N
  nN : N ≤ w.heap.size
  m0 : w.cell? ⟨mb, 0, none⟩ = some (.pointer (some ⟨S, 0, none⟩))
  m1 : w.cell? ⟨mb, 1, none⟩ = some (.pointer (some ⟨cb, 0, none⟩))
  ml : mb < w.heap.size
  mn : N ≤ mb
  mo : OutC cb v mb
  ca : CacheAt w N cb size hits v E
  ok : WaysOk a b th vr_ W th2 vr2 E
section
variable {w w' : World}
theorem MemAt.below {w0 : World} {mb S : Nat} {a b : Shp} {N cb : Nat} {size : Int} {th : Nat → Bool} {vr_ : Nat → Int} {W : Nat → Nat → Value} {th2 : Nat → Bool} {vr2 : Nat → Int} {W2 : Nat → Nat → Int} {hits : Int} {v : Value} {E : List EW} (h : (MemAt w0 w mb S a b N cb size th vr_ W th2 vr2 W2 hits v E)) (hb : Below w.heap.size w w') : (MemAt w0 w' mb S a b N cb size th vr_ W th2 vr2 W2 hits v E) :=
  ⟨h.sv.step hb, h.lo, h.n0, Nat.le_trans h.nN hb.size, (hb.cell (p := ⟨mb, 0, none⟩) h.ml).trans h.m0, (hb.cell (p := ⟨mb, 1, none⟩) h.ml).trans h.m1, Nat.lt_of_lt_of_le h.ml hb.size, h.mn, h.mo, h.ca.below hb, h.ok⟩
theorem MemAt.found {w0 : World} {mb S : Nat} {a b : Shp} {N cb : Nat} {size : Int} {th : Nat → Bool} {vr_ : Nat → Int} {W : Nat → Nat → Value} {th2 : Nat → Bool} {vr2 : Nat → Int} {W2 : Nat → Nat → Int} {hits : Int} {v : Value} {E : List EW} (h : (MemAt w0 w mb S a b N cb size th vr_ W th2 vr2 W2 hits v E)) {hits' : Int} {v' : Value} {E' : List EW} (hb : Below N w w') (hc : CacheAt w' N cb size hits' v' E') (ok : WaysOk a b th vr_ W th2 vr2 E') (hk : KeepB w w' cb v) (hv : v'.ownBlock = v.ownBlock ∨ ∃ g, w.heap.size ≤ g ∧ v'.ownBlock = some g) : MemAt w0 w' mb S a b N cb size th vr_ W th2 vr2 W2 hits' v' E' := by
  have e := hk.2 mb h.ml h.mo.1 h.mo.2
  refine ⟨⟨h.sv.bel.trans (hb.mono h.n0), h.sv.wb, h.sv.st.under h.lo hk.1 (fun k hkN => hb.block k hkN)⟩, h.lo, h.n0, Nat.le_trans h.nN hk.1, (World.cell?_of_block (a := ⟨mb, 0, none⟩) e).trans h.m0, (World.cell?_of_block (a := ⟨mb, 1, none⟩) e).trans h.m1, Nat.lt_of_lt_of_le h.ml hk.1, h.mn, h.mo.next h.ml hv, hc, ok⟩
/-- The store's pages were written; the ways stay. -/
theorem MemAt.page {w0 : World} {mb S : Nat} {a b : Shp} {N cb : Nat} {size : Int} {th : Nat → Bool} {vr_ : Nat → Int} {W : Nat → Nat → Value} {th2 : Nat → Bool} {vr2 : Nat → Int} {W2 : Nat → Nat → Int} {hits : Int} {v : Value} {E : List EW} (h : (MemAt w0 w mb S a b N cb size th vr_ W th2 vr2 W2 hits v E)) {th2' : Nat → Bool} {vr2' : Nat → Int} {W2' : Nat → Nat → Int} (hP : PgAt w' b.b b.P b.p b.B b.G b.n b.c th2' vr2' W2') (hb : PBelow w w' b.B b.G) (ok : WaysOk a b th vr_ W th2' vr2' E) : MemAt w0 w' mb S a b N cb size th vr_ W th2' vr2' W2' hits v E := by
  have hl := h.lo.p
  have e := hb.2.2.2.2 mb h.ml (by have := h.mn; omega) (by have := h.mn; omega)
  exact ⟨h.sv.page hP hb, h.lo, h.n0, Nat.le_trans h.nN hb.2.2.2.1, (World.cell?_of_block (a := ⟨mb, 0, none⟩) e).trans h.m0, (World.cell?_of_block (a := ⟨mb, 1, none⟩) e).trans h.m1, Nat.lt_of_lt_of_le h.ml hb.2.2.2.1, h.mn, h.mo, h.ca.same hb.2.2.2.1 (fun k hk hks => hb.2.2.2.2 k hks (by omega) (by omega)), ok⟩
theorem MemAt.node {w0 : World} {mb S : Nat} {a b : Shp} {N cb : Nat} {size : Int} {th : Nat → Bool} {vr_ : Nat → Int} {W : Nat → Nat → Value} {th2 : Nat → Bool} {vr2 : Nat → Int} {W2 : Nat → Nat → Int} {hits : Int} {v : Value} {E : List EW} (h : (MemAt w0 w mb S a b N cb size th vr_ W th2 vr2 W2 hits v E)) {th' : Nat → Bool} {vr' : Nat → Int} {W' : Nat → Nat → Value} (hN : NdAt w' a.b a.P a.p a.B a.G a.n a.c th' vr' W') (hb : PBelow w w' a.B a.G) (ok : WaysOk a b th' vr' W' th2 vr2 E) : MemAt w0 w' mb S a b N cb size th' vr' W' th2 vr2 W2 hits v E := by
  have hl := h.lo.n
  have e := hb.2.2.2.2 mb h.ml (by have := h.mn; omega) (by have := h.mn; omega)
  exact ⟨h.sv.node hN hb, h.lo, h.n0, Nat.le_trans h.nN hb.2.2.2.1, (World.cell?_of_block (a := ⟨mb, 0, none⟩) e).trans h.m0, (World.cell?_of_block (a := ⟨mb, 1, none⟩) e).trans h.m1, Nat.lt_of_lt_of_le h.ml hb.2.2.2.1, h.mn, h.mo, h.ca.same hb.2.2.2.1 (fun k hk hks => hb.2.2.2.2 k hks (by omega) (by omega)), ok⟩
theorem MemAt.put {w0 : World} {mb S : Nat} {a b : Shp} {N cb : Nat} {size : Int} {th : Nat → Bool} {vr_ : Nat → Int} {W : Nat → Nat → Value} {th2 : Nat → Bool} {vr2 : Nat → Int} {W2 : Nat → Nat → Int} {hits : Int} {v : Value} {E : List EW} (h : (MemAt w0 w mb S a b N cb size th vr_ W th2 vr2 W2 hits v E)) (x j : Nat) (hx : N ≤ x) (h1 : cb ≠ x) (h2 : mb ≠ x) (h3 : v.ownBlock ≠ some x) (h4 : NoNode E x) (u : Value) : MemAt w0 (w.setCell ⟨x, j, none⟩ u) mb S a b N cb size th vr_ W th2 vr2 W2 hits v E := by
  have e := set_heap w x mb j u h2
  exact ⟨h.sv.put1 h.lo x j hx h.n0 u, h.lo, h.n0, by simpa using h.nN, (World.cell?_of_block (a := ⟨mb, 0, none⟩) e).trans h.m0, (World.cell?_of_block (a := ⟨mb, 1, none⟩) e).trans h.m1, by simpa using h.ml, h.mn, h.mo, h.ca.put x j h1 h3 h4 u, h.ok⟩
end
theorem ways_nil {a b : Shp} {th : Nat → Bool} {vr_ : Nat → Int} {W : Nat → Nat → Value} {th2 : Nat → Bool} {vr2 : Nat → Int} : WaysOk a b th vr_ W th2 vr2 [] := fun e he => by cases he
end Go.Proofs.YtncopdhhchmpeaaGreatDoor
namespace Go.Proofs.YtncopdhhchmpeaaGreatDoor
open Go.ChangeShapes Go.WideShapes Go.ChangeAt Go.RowKit
set_option linter.unusedVariables false
set_option linter.unusedSimpArgs false
/-- What lies above the store, and is none of the cache's, is as it was. -/
def KeepM (w w' : World) (N cb : Nat) (v : Value) : Prop := w.heap.size ≤ w'.heap.size ∧ ∀ k, N ≤ k → k < w.heap.size → k ≠ cb → v.ownBlock ≠ some k → w'.heap[k]? = w.heap[k]?
end Go.Proofs.YtncopdhhchmpeaaGreatDoor
namespace Go.Proofs.YtncopdhhchmpeaaGreatDoor
open Go.ChangeShapes Go.WideShapes Go.ChangeAt Go.RowKit
set_option linter.unusedVariables false
set_option linter.unusedSimpArgs false
end Go.Proofs.YtncopdhhchmpeaaGreatDoor
namespace Go.Proofs.YtncopdhhchmpeaaGreatDoor
open Go.ChangeShapes Go.WideShapes Go.ChangeAt Go.RowKit
set_option linter.unusedVariables false
set_option linter.unusedSimpArgs false
set_option maxRecDepth 100000 in
theorem mover_ok (S : Nat) (z : Int) (h1 : 1 ≤ z) (h2 : z ≤ 64) (w : World) :
    Calls Tryz.prog 126 #[.pointer (some ⟨S, 0, none⟩), .int .i64 z] w fun e w' => ∃ mb cb, e = .returned (.tuple #[.pointer (some ⟨mb, 0, none⟩), .nilIface]) ∧ CacheAt w' w.heap.size cb z 0 (.slice none 0 0) [] ∧ (w.heap.size ≤ mb ∧ mb < w'.heap.size ∧ mb ≠ cb ∧ w'.cell? ⟨mb, 0, none⟩ = some (.pointer (some ⟨S, 0, none⟩)) ∧ w'.cell? ⟨mb, 1, none⟩ = some (.pointer (some ⟨cb, 0, none⟩))) ∧ Below w.heap.size w w' := by
  go_enter Tryz.func126, Tryz.ntmps126
  go_wp2_with (first
    | (go_at_call 167; (with_reducible refine (cnew_ok z h1 h2 _).mono ?_); rintro e w1 ⟨cb, rfl, hc, hb⟩; have HC := Lib.hid hc; have HB := Lib.hid hb; clear hc hb))
  go_ret2
  exact ⟨w1.heap.size, cb, rfl, HC.out.below ((Below.refl _ _).alloc (Nat.le_refl _) _), ⟨HB.out.size, by simp, by have := HC.out.cl; omega, by simp, by simp⟩, HB.out.alloc HB.out.size _⟩
set_option maxRecDepth 100000 in
theorem mnew_ok (x y z : Int) (n m : Nat) (hx : Hid (x = n)) (hy : Hid (y = m)) (h1 : 1 ≤ n) (h2 : n ≤ 256) (h3 : 1 ≤ m) (h4 : m ≤ 256) (z1 : 1 ≤ z) (z2 : z ≤ 64) (w : World) :
    Calls Tryz.prog 83 #[.int .i64 x, .int .i64 y, .int .i64 z] w fun e w' => ∃ mb S a b N cb, e = .returned (.tuple #[.pointer (some ⟨mb, 0, none⟩), .nilIface]) ∧ MemAt w w' mb S a b N cb z (fun _ => false) (fun _ => 0) (fun _ b => zc b) (fun _ => false) (fun _ => 0) (fun _ _ => 0) 0 (.slice none 0 0) [] ∧ Hid (a.n = n ∧ b.n = m) := by
  go_enter Tryz.func83, Tryz.ntmps83
  go_wp2_with (first
    | (go_at_call 125; (with_reducible refine (snew_ok x y n m hx hy h1 h2 h3 h4 _).mono ?_); rintro e w1 ⟨S, a, b, rfl, hs, hn, hb⟩; have HS : Hid (SV w w1 S a b _ _ _ _ _ _) := Lib.hid ⟨hb, by rw [hn.out.2.2]; exact Nat.le_refl _, hs⟩; have HN := Lib.hid hn.out; clear hs hn hb)
    | (go_at_call 126; (with_reducible refine (mover_ok S z z1 z2 _).mono ?_); rintro e w2 ⟨mb, cb, rfl, hc, hm, hb⟩; have HC := Lib.hid hc; have HM := Lib.hid hm; have HB := Lib.hid hb; clear hc hm hb))
  go_ret2
  obtain ⟨m1, m2, m3, m4, m5⟩ := HM.out
  exact ⟨mb, S, a, b, w1.heap.size, cb, rfl, ⟨HS.out.step HB.out, HS.out.st.lo, HS.out.bel.size, HB.out.size, m4, m5, m2, m1, ⟨m3, by simp [Value.ownBlock]⟩, HC.out, ways_nil⟩, Lib.hid ⟨HN.out.1, HN.out.2.1⟩⟩
end Go.Proofs.YtncopdhhchmpeaaGreatDoor
namespace Go.Proofs.YtncopdhhchmpeaaGreatDoor
open Go.ChangeShapes Go.WideShapes Go.ChangeAt Go.RowKit
set_option linter.unusedVariables false
set_option linter.unusedSimpArgs false
theorem MemAt.over {w0 : World} {mb S : Nat} {a b : Shp} {N cb : Nat} {size : Int} {th : Nat → Bool} {vr_ : Nat → Int} {W : Nat → Nat → Value} {th2 : Nat → Bool} {vr2 : Nat → Int} {W2 : Nat → Nat → Int} {hits : Int} {v : Value} {E : List EW} {w w1 : World} (h : (MemAt w0 w mb S a b N cb size th vr_ W th2 vr2 W2 hits v E)) (h1 : Below w1.heap.size w1 w0) : MemAt w1 w mb S a b N cb size th vr_ W th2 vr2 W2 hits v E :=
  ⟨⟨h1.trans (h.sv.bel.mono h1.size), Nat.le_trans h1.size h.sv.wb, h.sv.st⟩, h.lo, Nat.le_trans h1.size h.n0, h.nN, h.m0, h.m1, h.ml, h.mn, h.mo, h.ca, h.ok⟩
theorem KeyC.keep {w w' : World} {kb N cb : Nat} {v : Value} {k0 k1 k2 k3 k4 : Int} (h : KeyC w kb k0 k1 k2 k3 k4) (hk : KeepM w w' N cb v) (hN : N ≤ kb) (ho : OutC cb v kb) : KeyC w' kb k0 k1 k2 k3 k4 := h.same' hk.1 (hk.2 kb hN h.lt ho.1 ho.2)
end Go.Proofs.YtncopdhhchmpeaaGreatDoor
namespace Go.Proofs.YtncopdhhchmpeaaGreatDoor
open Go.ChangeShapes Go.WideShapes Go.ChangeAt Go.RowKit
set_option linter.unusedVariables false
set_option linter.unusedSimpArgs false
theorem CacheAt.cleared {w : World} {N cb : Nat} {size hits : Int} {v : Value} {E : List EW} (h : CacheAt w N cb size hits v E) : CacheAt (w.setCell ⟨cb, 2, none⟩ (.slice none 0 0)) N cb size hits (.slice none 0 0) [] := by
  refine ⟨h.nb, by simpa using h.cl, ?_, ?_, World.cell?_setCell_same _ _ _ h.c2, fun j => by simpa using h.fr j, World.ownsRow_nil _ _ _ _, by simp [Value.ownBlock], fun e he => by cases he⟩
  · rw [World.cell?_setCell_other _ _ _ _ (by simp)]; exact h.c0
  · rw [World.cell?_setCell_other _ _ _ _ (by simp)]; exact h.c1
theorem mgiven_ok (mb cb : Nat) (v : Value) (w : World) (m1 : w.cell? ⟨mb, 1, none⟩ = some (.pointer (some ⟨cb, 0, none⟩))) (c2 : w.cell? ⟨cb, 2, none⟩ = some v) (fr : w.frozen? ⟨cb, 2, none⟩ = false) :
    Calls Tryz.prog 130 #[.pointer (some ⟨mb, 0, none⟩), .nilIface] w fun e w' => e = .returned .nilIface ∧ w' = w.setCell ⟨cb, 2, none⟩ (.slice none 0 0) := by
  have hcl : Calls Tryz.prog 169 #[.pointer (some ⟨cb, 0, none⟩)] w fun e w' => e = .returned (.tuple #[]) ∧ w' = w.setCell ⟨cb, 2, none⟩ (.slice none 0 0) := by
    go_enter Tryz.func169, Tryz.ntmps169
    go_wp2_with fail
    go_end0
    exact ⟨rfl, rfl⟩
  have HCl := Lib.hid hcl
  clear hcl c2 fr
  go_enter Tryz.func130, Tryz.ntmps130
  go_wp2_with (first
    | (go_at_call 169; (with_reducible refine (HCl.out).mono ?_); rintro e w1 ⟨rfl, hw⟩; have HW := Lib.hid hw; clear hw))
  go_ret
  exact ⟨rfl, HW.out⟩
section
variable {w w1 : World}
theorem MemAt.nodeC {w0 : World} {mb S : Nat} {a b : Shp} {N cb : Nat} {size : Int} {th : Nat → Bool} {vr_ : Nat → Int} {W : Nat → Nat → Value} {th2 : Nat → Bool} {vr2 : Nat → Int} {W2 : Nat → Nat → Int} {hits : Int} {v : Value} {E : List EW} (h : (MemAt w0 w mb S a b N cb size th vr_ W th2 vr2 W2 hits v E)) {th' : Nat → Bool} {vr' : Nat → Int} {W' : Nat → Nat → Value} (hN : NdAt w1 a.b a.P a.p a.B a.G a.n a.c th' vr' W') (hb : PBelow w w1 a.B a.G) : MemAt w0 (w1.setCell ⟨cb, 2, none⟩ (.slice none 0 0)) mb S a b N cb size th' vr' W' th2 vr2 W2 hits (.slice none 0 0) [] ∧ KeepM w (w1.setCell ⟨cb, 2, none⟩ (.slice none 0 0)) N cb v := by
  have hl := h.lo.n
  have e := hb.2.2.2.2 mb h.ml (by have := h.mn; omega) (by have := h.mn; omega)
  have e2 := (set_heap w1 cb mb 2 (.slice none 0 0) h.mo.1).trans e
  have hs := hb.2.2.2.1
  exact ⟨⟨(h.sv.node hN hb).put1 h.lo cb 2 h.ca.nb h.n0 _, h.lo, h.n0, by have := h.nN; simp; omega, (World.cell?_of_block (a := ⟨mb, 0, none⟩) e2).trans h.m0, (World.cell?_of_block (a := ⟨mb, 1, none⟩) e2).trans h.m1, by have := h.ml; simp; omega, h.mn, ⟨h.mo.1, by simp [Value.ownBlock]⟩, (h.ca.same hs (fun k hk hks => hb.2.2.2.2 k hks (by omega) (by omega))).cleared, ways_nil⟩, ⟨by simpa using hs, fun k hkN hk hkc _ => by rw [set_heap _ _ _ _ _ hkc]; exact hb.2.2.2.2 k hk (by omega) (by omega)⟩⟩
theorem MemAt.pageC {w0 : World} {mb S : Nat} {a b : Shp} {N cb : Nat} {size : Int} {th : Nat → Bool} {vr_ : Nat → Int} {W : Nat → Nat → Value} {th2 : Nat → Bool} {vr2 : Nat → Int} {W2 : Nat → Nat → Int} {hits : Int} {v : Value} {E : List EW} (h : (MemAt w0 w mb S a b N cb size th vr_ W th2 vr2 W2 hits v E)) {th2' : Nat → Bool} {vr2' : Nat → Int} {W2' : Nat → Nat → Int} (hP : PgAt w1 b.b b.P b.p b.B b.G b.n b.c th2' vr2' W2') (hb : PBelow w w1 b.B b.G) : MemAt w0 (w1.setCell ⟨cb, 2, none⟩ (.slice none 0 0)) mb S a b N cb size th vr_ W th2' vr2' W2' hits (.slice none 0 0) [] ∧ KeepM w (w1.setCell ⟨cb, 2, none⟩ (.slice none 0 0)) N cb v := by
  have hl := h.lo.p
  have e := hb.2.2.2.2 mb h.ml (by have := h.mn; omega) (by have := h.mn; omega)
  have e2 := (set_heap w1 cb mb 2 (.slice none 0 0) h.mo.1).trans e
  have hs := hb.2.2.2.1
  exact ⟨⟨(h.sv.page hP hb).put1 h.lo cb 2 h.ca.nb h.n0 _, h.lo, h.n0, by have := h.nN; simp; omega, (World.cell?_of_block (a := ⟨mb, 0, none⟩) e2).trans h.m0, (World.cell?_of_block (a := ⟨mb, 1, none⟩) e2).trans h.m1, by have := h.ml; simp; omega, h.mn, ⟨h.mo.1, by simp [Value.ownBlock]⟩, (h.ca.same hs (fun k hk hks => hb.2.2.2.2 k hks (by omega) (by omega))).cleared, ways_nil⟩, ⟨by simpa using hs, fun k hkN hk hkc _ => by rw [set_heap _ _ _ _ _ hkc]; exact hb.2.2.2.2 k hk (by omega) (by omega)⟩⟩
end
end Go.Proofs.YtncopdhhchmpeaaGreatDoor
namespace Go.Proofs.YtncopdhhchmpeaaGreatDoor
open Go.ChangeShapes Go.WideShapes Go.ChangeAt Go.RowKit
set_option linter.unusedVariables false
set_option linter.unusedSimpArgs false
theorem RowS.base {w : World} {b b' : Nat} {T : TypeId} {s G n : Nat} {W : Nat → Nat → Value} (h : RowS w b T s G n W) (hb : b' ≤ b) : RowS w b' T s G n W := by
  refine ⟨h.1, ?_⟩
  rcases h.2 with hn | ⟨g', cap, cur, e', hB, hg, rest⟩
  · exact .inl hn
  · exact .inr ⟨g', cap, cur, e', Nat.le_trans hb hB, hg, rest⟩
/-- Banks being made. -/
structure B0 (B : Nat) (w1 w : World) (n : Nat) (oA : Option Nat) (g : List Nat) : Prop where
  bel : Below w1.heap.size w1 w
  a : ∀ A, oA = some A → w1.heap.size ≤ A ∧ RowS w B 124 3 A n (acS (fun _ => 0) (fun _ => 0) (fun _ => 0))
  t : ∀ G, G ∈ g → w1.heap.size ≤ G ∧ RowS w B 158 2 G 256 (tiS (fun _ => -1) (fun _ => 0))
  nd : (oA.toList ++ g).Nodup
theorem infoAcc : (Tryz.prog.info? 124).map (fun i => (i.zero, i.size, i.bytes)) = some (some (.agg #[.int .i64 0, .int .i64 0, .int .i64 0]), 3, 24) := by kernel_rfl
theorem B0.mk_ {B : Nat} {w1 w w' : World} {n : Nat} {g : List Nat} (h : B0 B w1 w n none g) (A : Nat) (hA : w.heap.size = A) (hown : w'.ownsRow B 124 3 (.slice (some ⟨A, 0, none⟩) n n) n (madeCells #[Value.int .i64 0, .int .i64 0, .int .i64 0] (n * 3)).toList) (hgrow : w.grownBy w' none) : B0 B w1 w' n (some A) g := by
  have hb : Below w.heap.size w w' := (Below.refl _ _).grown hgrow (Nat.le_refl _) (fun k hk => by cases hk)
  refine ⟨h.bel.trans (hb.mono h.bel.size), fun A' e => ?_, fun G hG => ⟨(h.t G hG).1, (h.t G hG).2.same (hb.block G (h.t G hG).2.lt.2)⟩, ?_⟩
  · injection e with e
    subst e
    refine ⟨by rw [← hA]; exact h.bel.size, ?_⟩
    have h2 := flatS_made [Value.int .i64 0, .int .i64 0, .int .i64 0] n (by decide)
    rw [show [Value.int .i64 0, .int .i64 0, .int .i64 0].length = 3 from rfl] at h2
    unfold RowS
    rw [flatS_congr 3 _ (fun _ b => [Value.int .i64 0, .int .i64 0, .int .i64 0].getD b (.int .i64 0)) n (by decide) (fun i j _ hj => by rcases (show j = 0 ∨ j = 1 ∨ j = 2 by omega) with rfl | rfl | rfl <;> simp [acS]), ← h2]
    exact hown
  · have hn := h.nd
    simp only [Option.toList_none, List.nil_append] at hn
    simp only [Option.toList_some, List.singleton_append, List.nodup_cons]
    exact ⟨fun hm => by have := (h.t A hm).2.lt.2; omega, hn⟩
theorem B0.own {B : Nat} {w1 w w' : World} {n : Nat} {oA : Option Nat} {g : List Nat} (h : B0 B w1 w n oA g) (hB : B ≤ w1.heap.size) (G : Nat) (hr : TiR w' w.heap.size G 256) (hb : Below w.heap.size w w') : B0 B w1 w' n oA (g ++ [G]) := by
  have hlt := RowS.lt hr
  refine ⟨h.bel.trans (hb.mono h.bel.size), fun A e => ⟨(h.a A e).1, (h.a A e).2.same (hb.block A (h.a A e).2.lt.2)⟩, fun G' hG => ?_, ?_⟩
  · rcases List.mem_append.1 hG with hG | hG
    · exact ⟨(h.t G' hG).1, (h.t G' hG).2.same (hb.block G' (h.t G' hG).2.lt.2)⟩
    · simp at hG
      subst hG
      refine ⟨Nat.le_trans h.bel.size hlt.1, (RowS.congr hr (by decide) (fun i j hi _ => ?_)).base (Nat.le_trans hB h.bel.size)⟩
      simp [tiS, loB, hi]
  · rw [← List.append_assoc, List.nodup_append]
    refine ⟨h.nd, by simp, fun x hx y hy => ?_⟩
    simp at hy
    subst hy
    rcases List.mem_append.1 hx with hx | hx
    · have := (h.a x (by simpa using hx)).2.lt.2
      omega
    · have := (h.t x hx).2.lt.2
      omega
theorem B0.done {w0 w1 w w2 : World} {n p B A G1 G2 G3 mb db : Nat} (hA : ArAt w1 w0.heap.size p B n n (fun _ => false) (fun _ => 0)) (hb : Below w0.heap.size w0 w1) (h : B0 w0.heap.size w1 w n (some A) [G1, G2, G3]) (T : TypeId) (h2 : w2 = w.alloc (.cells #[.pointer (some ⟨p, 0, none⟩), .pointer (some ⟨mb, 0, none⟩), .pointer (some ⟨db, 0, none⟩), .slice (some ⟨A, 0, none⟩) n n, .slice (some ⟨G1, 0, none⟩) 256 256, .slice (some ⟨G2, 0, none⟩) 256 256, .slice (some ⟨G3, 0, none⟩) 256 256] T (0, 0))) : BkAt w2 w0.heap.size w.heap.size p B A G1 G2 G3 n n mb db (fun _ => false) (fun _ => 0) (fun _ => 0) (fun _ => 0) (fun _ => 0) (fun _ => -1) (fun _ => 0) (fun _ => -1) (fun _ => 0) (fun _ => -1) (fun _ => 0) ∧ Below w0.heap.size w0 w2 := by
  subst h2
  have hp := hA.pl
  have hB := hA.lt
  have hAa := h.a A rfl
  have t1 := h.t G1 (by simp)
  have t2 := h.t G2 (by simp)
  have t3 := h.t G3 (by simp)
  have l1 := t1.2.lt
  have l2 := t2.2.lt
  have l3 := t3.2.lt
  have lA := hAa.2.lt
  have hnd := h.nd
  simp at hnd
  have hs := h.bel.size
  have hs1 := hb.size
  have h2' : ∀ o, Below w.heap.size w (w.alloc o) := fun o => (Below.refl _ _).alloc (Nat.le_refl _) o
  have sm : ∀ {T : TypeId} {s G m : Nat} {W : Nat → Nat → Value} (o : Obj), RowS w w0.heap.size T s G m W → RowS (w.alloc o) w0.heap.size T s G m W := fun o hr => hr.same ((h2' o).block _ hr.lt.2)
  obtain ⟨⟨a1, a2, a3⟩, ⟨b1, b2⟩, c1⟩ := hnd
  exact ⟨⟨by simp, by omega, by simp, by simp, by simp, by simp, by simp, by simp, by simp, (hA.below h.bel).below (h2' _), sm _ hAa.2, sm _ t1.2, sm _ t2.2, sm _ t3.2, ⟨by omega, by omega, by omega, by omega, by omega, by omega, by omega, by omega, by omega, by omega, a1, a2, a3, by omega, by omega, by omega, b1, b2, c1⟩⟩, (hb.trans (h.bel.mono hs1)).alloc (by omega) _⟩
set_option maxRecDepth 100000 in
set_option maxHeartbeats 2000000 in
theorem bknew_ok (x : Int) (n mb db : Nat) (hx : Hid (x = n)) (h1 : 1 ≤ n) (h2 : n ≤ 256) (w : World) :
    Calls Tryz.prog 86 #[.int .i64 x, .pointer (some ⟨mb, 0, none⟩), .pointer (some ⟨db, 0, none⟩)] w fun e w' => ∃ P p B A G1 G2 G3, e = .returned (.tuple #[.pointer (some ⟨P, 0, none⟩), .nilIface]) ∧ BkAt w' w.heap.size P p B A G1 G2 G3 n n mb db (fun _ => false) (fun _ => 0) (fun _ => 0) (fun _ => 0) (fun _ => 0) (fun _ => -1) (fun _ => 0) (fun _ => -1) (fun _ => 0) (fun _ => -1) (fun _ => 0) ∧ Below w.heap.size w w' := by
  rw [hx.out]
  obtain ⟨i0, hi, hz0, hz1, hz2⟩ := info_parts infoAcc
  have HI := Lib.hid (⟨hi, hz0, hz1, hz2⟩ : Tryz.prog.info? 124 = some i0 ∧ i0.zero = some (.agg #[.int .i64 0, .int .i64 0, .int .i64 0]) ∧ i0.size = 3 ∧ i0.bytes = 24)
  clear hi hz0 hz1 hz2 hx
  go_enter Tryz.func86, Tryz.ntmps86
  go_upto_region 4 with (first
    | (go_at_call 127; (with_reducible refine (anew_at _ n (Lib.hid rfl) h1 h2 _).mono ?_); rintro e w1 ⟨p, B, rfl, hA, hb⟩; have HA := Lib.hid hA; have HB := Lib.hid hb; clear hA hb))
  obtain ⟨wD, hwD⟩ : ∃ wD, wD = w1.drew := ⟨_, rfl⟩
  have HD : Hid (B0 w.heap.size w1 wD n none []) := Lib.hid (by rw [hwD]; exact ⟨(Below.refl _ _).drew, fun _ e => (by cases e), fun _ e => (by cases e), by simp⟩)
  refine wp_region_noPanic ?_
  refine wp_region_held_drew (S := fun w' => True) (by kernel_rfl) trivial (fun hHeld => ?_)
  rw [← hwD]
  clear hwD
  refine wpAnyH_take (i := 0) (v := ?_) (by rfl) (by kernel_rfl) (by kernel_rfl) (by kernel_rfl) (fun _ _ _ h => h) (Or.inl ⟨by kernel_rfl, ?_⟩) (by assumption) ?_; rotate_left 1; (focus (intro w hSw; (try dsimp only at hSw); simp only [List.getElem_toArray, List.getElem_cons_succ, List.getElem_cons_zero]; all_goals go_simp; all_goals (try with_reducible rfl))); (try simp only [Act.put, List.getElem_toArray, List.getElem_cons_succ, List.getElem_cons_zero, List.setIfInBounds_toArray, List.set_cons_zero, List.set_cons_succ])
  refine wpAnyH_take (i := 1) (v := ?_) (by rfl) (by kernel_rfl) (by kernel_rfl) (by kernel_rfl) (fun _ _ _ h => h) (Or.inl ⟨by kernel_rfl, ?_⟩) (by assumption) ?_; rotate_left 1; (focus (intro w hSw; (try dsimp only at hSw); simp only [List.getElem_toArray, List.getElem_cons_succ, List.getElem_cons_zero]; all_goals go_simp; all_goals (try with_reducible rfl))); (try simp only [Act.put, List.getElem_toArray, List.getElem_cons_succ, List.getElem_cons_zero, List.setIfInBounds_toArray, List.set_cons_zero, List.set_cons_succ])
  refine wpAnyH_take (i := 2) (v := ?_) (by rfl) (by kernel_rfl) (by kernel_rfl) (by kernel_rfl) (fun _ _ _ h => h) (Or.inl ⟨by kernel_rfl, ?_⟩) (by assumption) ?_; rotate_left 1; (focus (intro w hSw; (try dsimp only at hSw); simp only [List.getElem_toArray, List.getElem_cons_succ, List.getElem_cons_zero]; all_goals go_simp; all_goals (try with_reducible rfl))); (try simp only [Act.put, List.getElem_toArray, List.getElem_cons_succ, List.getElem_cons_zero, List.setIfInBounds_toArray, List.set_cons_zero, List.set_cons_succ])
  refine wpAnyH_take (i := 3) (v := ?_) (by rfl) (by kernel_rfl) (by kernel_rfl) (by kernel_rfl) (fun _ _ _ h => h) (Or.inl ⟨by kernel_rfl, ?_⟩) (by assumption) ?_; rotate_left 1; (focus (intro w hSw; (try dsimp only at hSw); simp only [List.getElem_toArray, List.getElem_cons_succ, List.getElem_cons_zero]; all_goals go_simp; all_goals (try with_reducible rfl))); (try simp only [Act.put, List.getElem_toArray, List.getElem_cons_succ, List.getElem_cons_zero, List.setIfInBounds_toArray, List.set_cons_zero, List.set_cons_succ])
  refine wpAnyH_ready (rs := [4, 5]) (by kernel_rfl) (by simp) ?_
  refine AllReadyH.cons (by rfl) (fun K' hK => ?_) (AllReadyH.cons (by rfl) (fun K' hK => ?_) AllReadyH.nil)
  · rw [if_pos (by kernel_rfl)]; simp only [List.getElem_toArray, List.getElem_cons_succ, List.getElem_cons_zero]
    obtain ⟨wA, hrun, hown, hgrow⟩ := run_make_full (P := Tryz.prog) wD w.heap.size 88 124 i0 (.agg #[.int .i64 0, .int .i64 0, .int .i64 0]) 3 Tryz.underlying88 HI.out.1 HI.out.2.1 HI.out.2.2.1 .i64 .i64 n (by rw [HI.out.2.2.2]; omega) (by unfold maxLen; omega) (Nat.le_trans HB.out.size HD.out.bel.size); obtain ⟨A, hA⟩ : ∃ A, wD.heap.size = A := ⟨_, rfl⟩; rw [hA] at hown hrun; have HwA := Lib.hid (HD.out.mk_ A hA hown hgrow); clear hown hgrow hA; go_wp2_with fail; clear hrun
    refine hK.out _ _ trivial (fun hHeld => ?_); clear hK; (try simp only [Act.put, List.getElem_toArray, List.getElem_cons_succ, List.getElem_cons_zero, List.setIfInBounds_toArray, List.set_cons_zero, List.set_cons_succ])
    refine wpAnyH_ready (rs := [5]) (by kernel_rfl) (by simp) ?_; refine AllReadyH.cons (by rfl) (fun K hK => ?_) AllReadyH.nil; rw [if_pos (by kernel_rfl)]; simp only [List.getElem_toArray, List.getElem_cons_succ, List.getElem_cons_zero]
    go_wp2_with (first | (go_at_call 128; (with_reducible refine (unowned_is _).mono ?_); rintro e wX ⟨G, rfl, hr, hb⟩; have HwX := Lib.hid (HwA.out.own HB.out.size G hr hb); clear hr hb))
    refine hK.out _ _ trivial (fun hHeld => ?_); clear hK; (try simp only [Act.put, List.getElem_toArray, List.getElem_cons_succ, List.getElem_cons_zero, List.setIfInBounds_toArray, List.set_cons_zero, List.set_cons_succ])
    refine wpAnyH_ready (rs := [6]) (by kernel_rfl) (by simp) ?_; refine AllReadyH.cons (by rfl) (fun K hK => ?_) AllReadyH.nil; rw [if_pos (by kernel_rfl)]; simp only [List.getElem_toArray, List.getElem_cons_succ, List.getElem_cons_zero]
    go_wp2_with (first | (go_at_call 128; (with_reducible refine (unowned_is _).mono ?_); rintro e wY ⟨G, rfl, hr, hb⟩; have HwY := Lib.hid (HwX.out.own HB.out.size G hr hb); clear hr hb))
    refine hK.out _ _ trivial (fun hHeld => ?_); clear hK; (try simp only [Act.put, List.getElem_toArray, List.getElem_cons_succ, List.getElem_cons_zero, List.setIfInBounds_toArray, List.set_cons_zero, List.set_cons_succ])
    refine wpAnyH_ready (rs := [7]) (by kernel_rfl) (by simp) ?_; refine AllReadyH.cons (by rfl) (fun K hK => ?_) AllReadyH.nil; rw [if_pos (by kernel_rfl)]; simp only [List.getElem_toArray, List.getElem_cons_succ, List.getElem_cons_zero]
    go_wp2_with (first | (go_at_call 128; (with_reducible refine (unowned_is _).mono ?_); rintro e wZ ⟨G, rfl, hr, hb⟩; have HwZ := Lib.hid (HwY.out.own HB.out.size G hr hb); clear hr hb))
    refine hK.out _ _ trivial (fun hHeld => ?_); clear hK; (try simp only [Act.put, List.getElem_toArray, List.getElem_cons_succ, List.getElem_cons_zero, List.setIfInBounds_toArray, List.set_cons_zero, List.set_cons_succ])
    refine wpAnyH_take (i := 8) (v := ?_) (by rfl) (by kernel_rfl) (by kernel_rfl) (by kernel_rfl) (fun _ _ _ h => h) (Or.inl ⟨by kernel_rfl, ?_⟩) (by assumption) ?_; rotate_left 1; (focus (intro w hSw; (try dsimp only at hSw); simp only [List.getElem_toArray, List.getElem_cons_succ, List.getElem_cons_zero]; all_goals go_simp; all_goals (try with_reducible rfl))); (try simp only [Act.put, List.getElem_toArray, List.getElem_cons_succ, List.getElem_cons_zero, List.setIfInBounds_toArray, List.set_cons_zero, List.set_cons_succ]); refine wpAnyH_ready (rs := [9]) (by kernel_rfl) (by simp) ?_; refine AllReadyH.cons (by rfl) (fun K hK => ?_) AllReadyH.nil; rw [if_pos (by kernel_rfl)]; simp only [List.getElem_toArray, List.getElem_cons_succ, List.getElem_cons_zero]; go_wp2_with fail; refine hK.out _ _ trivial (fun hHeld => ?_); clear hK; (try simp only [Act.put, List.getElem_toArray, List.getElem_cons_succ, List.getElem_cons_zero, List.setIfInBounds_toArray, List.set_cons_zero, List.set_cons_succ]); (try refine wpAnyH_take (i := 10) (v := ?_) (by rfl) (by kernel_rfl) (by kernel_rfl) (by kernel_rfl) (fun _ _ _ h => h) (Or.inl ⟨by kernel_rfl, ?_⟩) (by assumption) ?_; rotate_left 1; (focus (intro w hSw; (try dsimp only at hSw); simp only [List.getElem_toArray, List.getElem_cons_succ, List.getElem_cons_zero]; all_goals go_simp; all_goals (try with_reducible rfl))); (try simp only [Act.put, List.getElem_toArray, List.getElem_cons_succ, List.getElem_cons_zero, List.setIfInBounds_toArray, List.set_cons_zero, List.set_cons_succ])); (try refine wpAnyH_take (i := 11) (v := ?_) (by rfl) (by kernel_rfl) (by kernel_rfl) (by kernel_rfl) (fun _ _ _ h => h) (Or.inl ⟨by kernel_rfl, ?_⟩) (by assumption) ?_; rotate_left 1; (focus (intro w hSw; (try dsimp only at hSw); simp only [List.getElem_toArray, List.getElem_cons_succ, List.getElem_cons_zero]; all_goals go_simp; all_goals (try with_reducible rfl))); (try simp only [Act.put, List.getElem_toArray, List.getElem_cons_succ, List.getElem_cons_zero, List.setIfInBounds_toArray, List.set_cons_zero, List.set_cons_succ])); refine wpAnyH_done (by kernel_rfl) ?_ _; refine NoPanic.normal ?_; go_wp2_with fail; go_ret2; have hD := B0.done (mb := mb) (db := db) HA.out HB.out HwZ.out 91 rfl; exact ⟨_, _, _, _, _, _, _, rfl, hD.1, hD.2⟩
  · rw [if_pos (by kernel_rfl)]; simp only [List.getElem_toArray, List.getElem_cons_succ, List.getElem_cons_zero]
    go_wp2_with (first | (go_at_call 128; (with_reducible refine (unowned_is _).mono ?_); rintro e wX ⟨G, rfl, hr, hb⟩; have HwX := Lib.hid (HD.out.own HB.out.size G hr hb); clear hr hb))
    refine hK.out _ _ trivial (fun hHeld => ?_); clear hK; (try simp only [Act.put, List.getElem_toArray, List.getElem_cons_succ, List.getElem_cons_zero, List.setIfInBounds_toArray, List.set_cons_zero, List.set_cons_succ])
    refine wpAnyH_ready (rs := [4, 6]) (by kernel_rfl) (by simp) ?_
    refine AllReadyH.cons (by rfl) (fun K'' hK => ?_) (AllReadyH.cons (by rfl) (fun K'' hK => ?_) AllReadyH.nil)
    · rw [if_pos (by kernel_rfl)]; simp only [List.getElem_toArray, List.getElem_cons_succ, List.getElem_cons_zero]
      obtain ⟨wA, hrun, hown, hgrow⟩ := run_make_full (P := Tryz.prog) wX w.heap.size 88 124 i0 (.agg #[.int .i64 0, .int .i64 0, .int .i64 0]) 3 Tryz.underlying88 HI.out.1 HI.out.2.1 HI.out.2.2.1 .i64 .i64 n (by rw [HI.out.2.2.2]; omega) (by unfold maxLen; omega) (Nat.le_trans HB.out.size HwX.out.bel.size); obtain ⟨A, hA⟩ : ∃ A, wX.heap.size = A := ⟨_, rfl⟩; rw [hA] at hown hrun; have HwA := Lib.hid (HwX.out.mk_ A hA hown hgrow); clear hown hgrow hA; go_wp2_with fail; clear hrun
      refine hK.out _ _ trivial (fun hHeld => ?_); clear hK; (try simp only [Act.put, List.getElem_toArray, List.getElem_cons_succ, List.getElem_cons_zero, List.setIfInBounds_toArray, List.set_cons_zero, List.set_cons_succ])
      refine wpAnyH_ready (rs := [6]) (by kernel_rfl) (by simp) ?_; refine AllReadyH.cons (by rfl) (fun K hK => ?_) AllReadyH.nil; rw [if_pos (by kernel_rfl)]; simp only [List.getElem_toArray, List.getElem_cons_succ, List.getElem_cons_zero]
      go_wp2_with (first | (go_at_call 128; (with_reducible refine (unowned_is _).mono ?_); rintro e wY ⟨G, rfl, hr, hb⟩; have HwY := Lib.hid (HwA.out.own HB.out.size G hr hb); clear hr hb))
      refine hK.out _ _ trivial (fun hHeld => ?_); clear hK; (try simp only [Act.put, List.getElem_toArray, List.getElem_cons_succ, List.getElem_cons_zero, List.setIfInBounds_toArray, List.set_cons_zero, List.set_cons_succ])
      refine wpAnyH_ready (rs := [7]) (by kernel_rfl) (by simp) ?_; refine AllReadyH.cons (by rfl) (fun K hK => ?_) AllReadyH.nil; rw [if_pos (by kernel_rfl)]; simp only [List.getElem_toArray, List.getElem_cons_succ, List.getElem_cons_zero]
      go_wp2_with (first | (go_at_call 128; (with_reducible refine (unowned_is _).mono ?_); rintro e wZ ⟨G, rfl, hr, hb⟩; have HwZ := Lib.hid (HwY.out.own HB.out.size G hr hb); clear hr hb))
      refine hK.out _ _ trivial (fun hHeld => ?_); clear hK; (try simp only [Act.put, List.getElem_toArray, List.getElem_cons_succ, List.getElem_cons_zero, List.setIfInBounds_toArray, List.set_cons_zero, List.set_cons_succ])
      refine wpAnyH_take (i := 8) (v := ?_) (by rfl) (by kernel_rfl) (by kernel_rfl) (by kernel_rfl) (fun _ _ _ h => h) (Or.inl ⟨by kernel_rfl, ?_⟩) (by assumption) ?_; rotate_left 1; (focus (intro w hSw; (try dsimp only at hSw); simp only [List.getElem_toArray, List.getElem_cons_succ, List.getElem_cons_zero]; all_goals go_simp; all_goals (try with_reducible rfl))); (try simp only [Act.put, List.getElem_toArray, List.getElem_cons_succ, List.getElem_cons_zero, List.setIfInBounds_toArray, List.set_cons_zero, List.set_cons_succ]); refine wpAnyH_ready (rs := [9]) (by kernel_rfl) (by simp) ?_; refine AllReadyH.cons (by rfl) (fun K hK => ?_) AllReadyH.nil; rw [if_pos (by kernel_rfl)]; simp only [List.getElem_toArray, List.getElem_cons_succ, List.getElem_cons_zero]; go_wp2_with fail; refine hK.out _ _ trivial (fun hHeld => ?_); clear hK; (try simp only [Act.put, List.getElem_toArray, List.getElem_cons_succ, List.getElem_cons_zero, List.setIfInBounds_toArray, List.set_cons_zero, List.set_cons_succ]); (try refine wpAnyH_take (i := 10) (v := ?_) (by rfl) (by kernel_rfl) (by kernel_rfl) (by kernel_rfl) (fun _ _ _ h => h) (Or.inl ⟨by kernel_rfl, ?_⟩) (by assumption) ?_; rotate_left 1; (focus (intro w hSw; (try dsimp only at hSw); simp only [List.getElem_toArray, List.getElem_cons_succ, List.getElem_cons_zero]; all_goals go_simp; all_goals (try with_reducible rfl))); (try simp only [Act.put, List.getElem_toArray, List.getElem_cons_succ, List.getElem_cons_zero, List.setIfInBounds_toArray, List.set_cons_zero, List.set_cons_succ])); (try refine wpAnyH_take (i := 11) (v := ?_) (by rfl) (by kernel_rfl) (by kernel_rfl) (by kernel_rfl) (fun _ _ _ h => h) (Or.inl ⟨by kernel_rfl, ?_⟩) (by assumption) ?_; rotate_left 1; (focus (intro w hSw; (try dsimp only at hSw); simp only [List.getElem_toArray, List.getElem_cons_succ, List.getElem_cons_zero]; all_goals go_simp; all_goals (try with_reducible rfl))); (try simp only [Act.put, List.getElem_toArray, List.getElem_cons_succ, List.getElem_cons_zero, List.setIfInBounds_toArray, List.set_cons_zero, List.set_cons_succ])); refine wpAnyH_done (by kernel_rfl) ?_ _; refine NoPanic.normal ?_; go_wp2_with fail; go_ret2; have hD := B0.done (mb := mb) (db := db) HA.out HB.out HwZ.out 91 rfl; exact ⟨_, _, _, _, _, _, _, rfl, hD.1, hD.2⟩
    · rw [if_pos (by kernel_rfl)]; simp only [List.getElem_toArray, List.getElem_cons_succ, List.getElem_cons_zero]
      go_wp2_with (first | (go_at_call 128; (with_reducible refine (unowned_is _).mono ?_); rintro e wY ⟨G, rfl, hr, hb⟩; have HwY := Lib.hid (HwX.out.own HB.out.size G hr hb); clear hr hb))
      refine hK.out _ _ trivial (fun hHeld => ?_); clear hK; (try simp only [Act.put, List.getElem_toArray, List.getElem_cons_succ, List.getElem_cons_zero, List.setIfInBounds_toArray, List.set_cons_zero, List.set_cons_succ])
      refine wpAnyH_ready (rs := [4, 7]) (by kernel_rfl) (by simp) ?_
      refine AllReadyH.cons (by rfl) (fun K3 hK => ?_) (AllReadyH.cons (by rfl) (fun K3 hK => ?_) AllReadyH.nil)
      · rw [if_pos (by kernel_rfl)]; simp only [List.getElem_toArray, List.getElem_cons_succ, List.getElem_cons_zero]
        obtain ⟨wA, hrun, hown, hgrow⟩ := run_make_full (P := Tryz.prog) wY w.heap.size 88 124 i0 (.agg #[.int .i64 0, .int .i64 0, .int .i64 0]) 3 Tryz.underlying88 HI.out.1 HI.out.2.1 HI.out.2.2.1 .i64 .i64 n (by rw [HI.out.2.2.2]; omega) (by unfold maxLen; omega) (Nat.le_trans HB.out.size HwY.out.bel.size); obtain ⟨A, hA⟩ : ∃ A, wY.heap.size = A := ⟨_, rfl⟩; rw [hA] at hown hrun; have HwA := Lib.hid (HwY.out.mk_ A hA hown hgrow); clear hown hgrow hA; go_wp2_with fail; clear hrun
        refine hK.out _ _ trivial (fun hHeld => ?_); clear hK; (try simp only [Act.put, List.getElem_toArray, List.getElem_cons_succ, List.getElem_cons_zero, List.setIfInBounds_toArray, List.set_cons_zero, List.set_cons_succ])
        refine wpAnyH_ready (rs := [7]) (by kernel_rfl) (by simp) ?_; refine AllReadyH.cons (by rfl) (fun K hK => ?_) AllReadyH.nil; rw [if_pos (by kernel_rfl)]; simp only [List.getElem_toArray, List.getElem_cons_succ, List.getElem_cons_zero]
        go_wp2_with (first | (go_at_call 128; (with_reducible refine (unowned_is _).mono ?_); rintro e wZ ⟨G, rfl, hr, hb⟩; have HwZ := Lib.hid (HwA.out.own HB.out.size G hr hb); clear hr hb))
        refine hK.out _ _ trivial (fun hHeld => ?_); clear hK; (try simp only [Act.put, List.getElem_toArray, List.getElem_cons_succ, List.getElem_cons_zero, List.setIfInBounds_toArray, List.set_cons_zero, List.set_cons_succ])
        refine wpAnyH_take (i := 8) (v := ?_) (by rfl) (by kernel_rfl) (by kernel_rfl) (by kernel_rfl) (fun _ _ _ h => h) (Or.inl ⟨by kernel_rfl, ?_⟩) (by assumption) ?_; rotate_left 1; (focus (intro w hSw; (try dsimp only at hSw); simp only [List.getElem_toArray, List.getElem_cons_succ, List.getElem_cons_zero]; all_goals go_simp; all_goals (try with_reducible rfl))); (try simp only [Act.put, List.getElem_toArray, List.getElem_cons_succ, List.getElem_cons_zero, List.setIfInBounds_toArray, List.set_cons_zero, List.set_cons_succ]); refine wpAnyH_ready (rs := [9]) (by kernel_rfl) (by simp) ?_; refine AllReadyH.cons (by rfl) (fun K hK => ?_) AllReadyH.nil; rw [if_pos (by kernel_rfl)]; simp only [List.getElem_toArray, List.getElem_cons_succ, List.getElem_cons_zero]; go_wp2_with fail; refine hK.out _ _ trivial (fun hHeld => ?_); clear hK; (try simp only [Act.put, List.getElem_toArray, List.getElem_cons_succ, List.getElem_cons_zero, List.setIfInBounds_toArray, List.set_cons_zero, List.set_cons_succ]); (try refine wpAnyH_take (i := 10) (v := ?_) (by rfl) (by kernel_rfl) (by kernel_rfl) (by kernel_rfl) (fun _ _ _ h => h) (Or.inl ⟨by kernel_rfl, ?_⟩) (by assumption) ?_; rotate_left 1; (focus (intro w hSw; (try dsimp only at hSw); simp only [List.getElem_toArray, List.getElem_cons_succ, List.getElem_cons_zero]; all_goals go_simp; all_goals (try with_reducible rfl))); (try simp only [Act.put, List.getElem_toArray, List.getElem_cons_succ, List.getElem_cons_zero, List.setIfInBounds_toArray, List.set_cons_zero, List.set_cons_succ])); (try refine wpAnyH_take (i := 11) (v := ?_) (by rfl) (by kernel_rfl) (by kernel_rfl) (by kernel_rfl) (fun _ _ _ h => h) (Or.inl ⟨by kernel_rfl, ?_⟩) (by assumption) ?_; rotate_left 1; (focus (intro w hSw; (try dsimp only at hSw); simp only [List.getElem_toArray, List.getElem_cons_succ, List.getElem_cons_zero]; all_goals go_simp; all_goals (try with_reducible rfl))); (try simp only [Act.put, List.getElem_toArray, List.getElem_cons_succ, List.getElem_cons_zero, List.setIfInBounds_toArray, List.set_cons_zero, List.set_cons_succ])); refine wpAnyH_done (by kernel_rfl) ?_ _; refine NoPanic.normal ?_; go_wp2_with fail; go_ret2; have hD := B0.done (mb := mb) (db := db) HA.out HB.out HwZ.out 91 rfl; exact ⟨_, _, _, _, _, _, _, rfl, hD.1, hD.2⟩
      · rw [if_pos (by kernel_rfl)]; simp only [List.getElem_toArray, List.getElem_cons_succ, List.getElem_cons_zero]
        go_wp2_with (first | (go_at_call 128; (with_reducible refine (unowned_is _).mono ?_); rintro e wZ ⟨G, rfl, hr, hb⟩; have HwZ := Lib.hid (HwY.out.own HB.out.size G hr hb); clear hr hb))
        refine hK.out _ _ trivial (fun hHeld => ?_); clear hK; (try simp only [Act.put, List.getElem_toArray, List.getElem_cons_succ, List.getElem_cons_zero, List.setIfInBounds_toArray, List.set_cons_zero, List.set_cons_succ])
        refine wpAnyH_ready (rs := [4]) (by kernel_rfl) (by simp) ?_; refine AllReadyH.cons (by rfl) (fun K hK => ?_) AllReadyH.nil; rw [if_pos (by kernel_rfl)]; simp only [List.getElem_toArray, List.getElem_cons_succ, List.getElem_cons_zero]
        obtain ⟨wA, hrun, hown, hgrow⟩ := run_make_full (P := Tryz.prog) wZ w.heap.size 88 124 i0 (.agg #[.int .i64 0, .int .i64 0, .int .i64 0]) 3 Tryz.underlying88 HI.out.1 HI.out.2.1 HI.out.2.2.1 .i64 .i64 n (by rw [HI.out.2.2.2]; omega) (by unfold maxLen; omega) (Nat.le_trans HB.out.size HwZ.out.bel.size); obtain ⟨A, hA⟩ : ∃ A, wZ.heap.size = A := ⟨_, rfl⟩; rw [hA] at hown hrun; have HwA := Lib.hid (HwZ.out.mk_ A hA hown hgrow); clear hown hgrow hA; go_wp2_with fail; clear hrun
        refine hK.out _ _ trivial (fun hHeld => ?_); clear hK; (try simp only [Act.put, List.getElem_toArray, List.getElem_cons_succ, List.getElem_cons_zero, List.setIfInBounds_toArray, List.set_cons_zero, List.set_cons_succ])
        refine wpAnyH_take (i := 8) (v := ?_) (by rfl) (by kernel_rfl) (by kernel_rfl) (by kernel_rfl) (fun _ _ _ h => h) (Or.inl ⟨by kernel_rfl, ?_⟩) (by assumption) ?_; rotate_left 1; (focus (intro w hSw; (try dsimp only at hSw); simp only [List.getElem_toArray, List.getElem_cons_succ, List.getElem_cons_zero]; all_goals go_simp; all_goals (try with_reducible rfl))); (try simp only [Act.put, List.getElem_toArray, List.getElem_cons_succ, List.getElem_cons_zero, List.setIfInBounds_toArray, List.set_cons_zero, List.set_cons_succ]); refine wpAnyH_ready (rs := [9]) (by kernel_rfl) (by simp) ?_; refine AllReadyH.cons (by rfl) (fun K hK => ?_) AllReadyH.nil; rw [if_pos (by kernel_rfl)]; simp only [List.getElem_toArray, List.getElem_cons_succ, List.getElem_cons_zero]; go_wp2_with fail; refine hK.out _ _ trivial (fun hHeld => ?_); clear hK; (try simp only [Act.put, List.getElem_toArray, List.getElem_cons_succ, List.getElem_cons_zero, List.setIfInBounds_toArray, List.set_cons_zero, List.set_cons_succ]); (try refine wpAnyH_take (i := 10) (v := ?_) (by rfl) (by kernel_rfl) (by kernel_rfl) (by kernel_rfl) (fun _ _ _ h => h) (Or.inl ⟨by kernel_rfl, ?_⟩) (by assumption) ?_; rotate_left 1; (focus (intro w hSw; (try dsimp only at hSw); simp only [List.getElem_toArray, List.getElem_cons_succ, List.getElem_cons_zero]; all_goals go_simp; all_goals (try with_reducible rfl))); (try simp only [Act.put, List.getElem_toArray, List.getElem_cons_succ, List.getElem_cons_zero, List.setIfInBounds_toArray, List.set_cons_zero, List.set_cons_succ])); (try refine wpAnyH_take (i := 11) (v := ?_) (by rfl) (by kernel_rfl) (by kernel_rfl) (by kernel_rfl) (fun _ _ _ h => h) (Or.inl ⟨by kernel_rfl, ?_⟩) (by assumption) ?_; rotate_left 1; (focus (intro w hSw; (try dsimp only at hSw); simp only [List.getElem_toArray, List.getElem_cons_succ, List.getElem_cons_zero]; all_goals go_simp; all_goals (try with_reducible rfl))); (try simp only [Act.put, List.getElem_toArray, List.getElem_cons_succ, List.getElem_cons_zero, List.setIfInBounds_toArray, List.set_cons_zero, List.set_cons_succ])); refine wpAnyH_done (by kernel_rfl) ?_ _; refine NoPanic.normal ?_; go_wp2_with fail; go_ret2; have hD := B0.done (mb := mb) (db := db) HA.out HB.out HwA.out 91 rfl; exact ⟨_, _, _, _, _, _, _, rfl, hD.1, hD.2⟩
end Go.Proofs.YtncopdhhchmpeaaGreatDoor
namespace Go.Proofs.YtncopdhhchmpeaaGreatDoor
open Go.ChangeShapes Go.WideShapes Go.ChangeAt Go.RowKit
set_option linter.unusedVariables false
set_option linter.unusedSimpArgs false
/-- The first k are there. -/
def thN (k : Nat) : Nat → Bool := fun i => decide (i < k)
theorem thN_put (k : Nat) : upd (thN k) k true = thN (k + 1) := by
  funext i
  unfold upd thN
  by_cases e : i = k
  · subst e; simp
  · by_cases h : i < k
    · simp [e, h]; omega
    · simp [e, h]; omega
theorem thN_at {k i : Nat} (h : i < k) : thN k i = true := by simp [thN, h]
theorem thN_free (k : Nat) : freeB (thN k) (fun _ => 0) k = true := by simp [freeB, thN]
theorem thN_not (k : Nat) : ∀ i, i < k → freeB (thN k) (fun _ => 0) i = false := fun i hi => by simp [freeB, thN, hi]
theorem prok_put {nb : Nat} {pr : Nat → Int} (hp : PrOk nb pr) (y : Int) (h0 : -1 ≤ y) (h1 : y < nb) : PrOk (nb + 1) (upd pr nb y) := fun i hi => by
  by_cases e : i = nb
  · subst e; rw [upd_at]; omega
  · rw [upd_other _ _ _ _ e]; exact hp i (by omega)
theorem own_slice {w : World} {B : Nat} {v : Value} {L : List Int} (h : w.ownsRow B 3 1 v L.length (L.map (Value.int .i64))) (k : Nat) (hk : Hid (L.length = k)) : ∃ a c, v = .slice a k c := by
  obtain ⟨a, c, hv, _⟩ := own_ints h
  exact ⟨a, c, by rw [hv, hk.out]⟩
set_option maxRecDepth 100000 in
set_option maxHeartbeats 1000000 in
theorem bopen_ok {base P p B A G1 G2 G3 n c mb db nb : Nat} {pr us lm o1 v1 o2 v2 o3 v3 : Nat → Int} (y lim : Int) (hy0 : -1 ≤ y) (hy1 : y < nb) (hl0 : 0 ≤ lim) (hl1 : lim ≤ 512) (hnb : nb < n) (hpr : Hid (PrOk nb pr)) (hch : Hid ((chL pr y).length < 8)) (w : World) (h : BkAt w base P p B A G1 G2 G3 n c mb db (thN nb) (fun _ => 0) pr us lm o1 v1 o2 v2 o3 v3) :
    Calls Tryz.prog 48 #[.pointer (some ⟨P, 0, none⟩), .int .i64 y, .int .i64 lim] w fun e w' => e = .returned (.tuple #[.int .i64 nb, .int .i64 0, .nilIface]) ∧ BkAt w' base P p B A G1 G2 G3 n c mb db (thN (nb + 1)) (fun _ => 0) (upd pr nb y) (upd us nb 0) (upd lm nb lim) o1 v1 o2 v2 o3 v3 ∧ PBelow w w' B A := by
  have H := Lib.hid h
  have hn := h.ar.le
  have d0 : decide (lim < 0) = false := decide_eq_false (by omega)
  have d1 : decide (512 < lim) = false := decide_eq_false (by omega)
  obtain ⟨m, hm⟩ : ∃ m, Hid ((chL pr y).length = m) := ⟨_, Lib.hid rfl⟩
  have hm8 : m < 8 := by have := hch.out; rw [hm.out] at this; exact this
  have d2 : decide ((8 : Int) ≤ (m : Int)) = false := decide_eq_false (by omega)
  have k0 : (0 : Int) ≤ nb := by omega
  have k1 : (nb : Int) < n := by omega
  clear h
  go_enter Tryz.func48, Tryz.ntmps48
  go_wp2_with (first
    | (go_at_call 77; (with_reducible refine (bchain_is y nb hy0 hy1 (by omega) (Lib.hid (fun i hi => thN_at hi)) hpr _ H.out).mono ?_); rintro e w1 ⟨v, rfl, hr, hb⟩; obtain ⟨a9, c9, hv9⟩ := own_slice hr m hm; subst hv9; have H1 := Lib.hid (H.out.below hb); have HB1 := Lib.hid hb; have f0 := H1.out.f0; clear hr hb)
    | (go_at_call 65; (with_reducible refine (atake_ok _ H1.out.ar nb hnb (Lib.hid (thN_free nb)) (Lib.hid (thN_not nb)) 0 (Lib.hid rfl)).mono ?_); rintro e w2 ⟨rfl, hA, hg⟩; have H2 := Lib.hid (H1.out.turn hA hg); have HB2 := Lib.hid ((PBelow.of_below (B := B) (G := A) HB1.out).trans (PBelow.of hg (.inl rfl))); have f3 := H2.out.f3; have HP := Lib.hid (H2.out.setP nb hnb y); have HU := Lib.hid (HP.out.1.setU nb hnb 0); have HL := Lib.hid (HU.out.1.setL nb hnb lim); have c0 := H2.out.ac0 nb hnb; have c1 := H2.out.ac1 nb hnb; have c2 := H2.out.ac2 nb hnb; have z0 := H2.out.ac.fr (nb * 3); have z1 := H2.out.ac.fr (nb * 3 + 1); have z2 := H2.out.ac.fr (nb * 3 + 2); clear hA hg f0))
  go_ret3
  refine ⟨rfl, ?_, ((HB2.out.trans (PBelow.of HP.out.2 (.inr rfl))).trans (PBelow.of HU.out.2 (.inr rfl))).trans (PBelow.of HL.out.2 (.inr rfl))⟩
  have := HL.out.1
  rw [thN_put] at this
  exact this
/-- What open answers, told on by Root and by Sub. -/
theorem broot_of {P : Nat} {lim : Int} {w : World} {Q : Ending → World → Prop} (r : Value) (a0 a1 a2 : Value) (hr : r = .tuple #[a0, a1, a2]) (h : Calls Tryz.prog 48 #[.pointer (some ⟨P, 0, none⟩), .int .i64 (-1), .int .i64 lim] w fun e w' => e = .returned r ∧ Q e w') :
    Calls Tryz.prog 12 #[.pointer (some ⟨P, 0, none⟩), .int .i64 lim] w fun e w' => e = .returned r ∧ Q e w' := by
  subst hr
  have HC := Lib.hid h
  clear h
  go_enter Tryz.func12, Tryz.ntmps12
  go_wp2_with (first
    | (go_at_call 48; (with_reducible refine HC.out.mono ?_); rintro e w1 ⟨rfl, hq⟩; have HQ := Lib.hid hq; clear hq))
  go_ret3
  exact ⟨rfl, HQ.out⟩
theorem bsub_of {base P p B A G1 G2 G3 n c mb db nb : Nat} {pr us lm o1 v1 o2 v2 o3 v3 : Nat → Int} (q : Nat) (lim : Int) (hq : q < nb) (hnb : nb ≤ n) {Q : Ending → World → Prop} (r : Value) (a0 a1 a2 : Value) (hr : r = .tuple #[a0, a1, a2]) (w : World) (h0 : BkAt w base P p B A G1 G2 G3 n c mb db (thN nb) (fun _ => 0) pr us lm o1 v1 o2 v2 o3 v3) (h : Calls Tryz.prog 48 #[.pointer (some ⟨P, 0, none⟩), .int .i64 (q : Int), .int .i64 lim] w fun e w' => e = .returned r ∧ Q e w') :
    Calls Tryz.prog 20 #[.pointer (some ⟨P, 0, none⟩), .int .i64 (q : Int), .int .i64 lim] w fun e w' => e = .returned r ∧ Q e w' := by
  subst hr
  have HC := Lib.hid h
  have H := Lib.hid h0
  have f0 := h0.f0
  clear h h0
  go_enter Tryz.func20, Tryz.ntmps20
  go_wp2_with (first
    | (go_at_call 63; (with_reducible refine (athere_in q (by omega) true (Lib.hid (thN_at hq)) _ H.out.ar).mono ?_); rintro e w1 ⟨rfl, rfl⟩)
    | (go_at_call 48; (with_reducible refine HC.out.mono ?_); rintro e w1 ⟨rfl, hq⟩; have HQ := Lib.hid hq; clear hq))
  go_ret3
  exact ⟨rfl, HQ.out⟩
set_option maxRecDepth 100000 in
theorem six_nil (a : Option Addr) (d c : Nat) (hd : d = 0) (x : Int) (w : World) :
    Calls Tryz.prog 103 #[.slice a d c, .int .i64 x] w fun e w' => e = .returned (.int .i64 (-1)) ∧ w = w' := by
  have HD := Lib.hid hd
  clear hd
  go_enter Tryz.func103, Tryz.ntmps103
  go_wp2_with fail
  go_loop [8] (fun i => ∃ k : Nat, k ≤ d ∧ i = .int .i64 k) (fun i => d - (intOf i).toNat)
  case atStart => exact ⟨0, by omega, rfl⟩
  case round =>
    obtain ⟨k, hk, rfl⟩ := hrel
    obtain rfl : d = k := by have := HD.out; omega
    have hdd : decide (d < d) = false := by simp
    go_wp2_with fail
    go_ret
    exact ⟨rfl, rfl⟩
set_option maxRecDepth 100000 in
theorem scon_any (w : World) (B : Nat) (v : Value) (L : List Int) (k : Nat) (hk : Hid (L.length = k)) (hk2 : k ≤ 1000) (x : Int) (b : Bool) (hb : Hid (L.contains x = b)) (a : Option Addr) (c : Nat) (hv : v = .slice a k c) (h : w.ownsRow B 3 1 v L.length (L.map (Value.int .i64))) :
    Calls Tryz.prog 71 #[.slice a k c, .int .i64 x] w fun e w' => e = .returned (.bool b) ∧ w = w' := by
  obtain ⟨a', c', hv', ha⟩ := own_ints h
  rw [hv] at hv'
  have e1 : a = a' := by injection hv'
  have e2 : k = L.length := by injection hv'
  subst e1
  by_cases h0 : 0 < L.length
  · obtain ⟨g, hg, hr, _⟩ := ha h0
    subst hg
    rw [← e2] at hr
    refine scon_is g k c L x hk2 b (Lib.hid ?_) w hr
    rw [← hb.out, List.contains_iff_mem, mem_getD, ← e2]
  · have hL : L = [] := List.eq_nil_of_length_eq_zero (by omega)
    subst hL
    have hk0 : k = 0 := by simpa using e2
    subst hk0
    have hb0 : b = false := by rw [← hb.out]; rfl
    subst hb0
    have HC := Lib.hid (six_nil a 0 c rfl x w)
    clear h ha hv hv' hb e2 hk h0
    go_enter Tryz.func71, Tryz.ntmps71
    go_wp2_with (first | (go_at_call 103; (with_reducible refine HC.out.mono ?_); rintro e w1 ⟨rfl, rfl⟩))
    go_ret
    exact ⟨rfl, rfl⟩
set_option maxRecDepth 100000 in
theorem bwithin_is {base P p B A G1 G2 G3 n c mb db nb : Nat} {pr us lm o1 v1 o2 v2 o3 v3 : Nat → Int} (y z : Int) (t : Bool) (hy0 : -1 ≤ y) (hy1 : y < nb) (hnb : nb ≤ n) (hpr : Hid (PrOk nb pr)) (ht : Hid ((chL pr y).contains z = t)) (w : World) (h : BkAt w base P p B A G1 G2 G3 n c mb db (thN nb) (fun _ => 0) pr us lm o1 v1 o2 v2 o3 v3) :
    Calls Tryz.prog 104 #[.pointer (some ⟨P, 0, none⟩), .int .i64 y, .int .i64 z] w fun e w' => e = .returned (.bool t) ∧ Below w.heap.size w w' := by
  have H := Lib.hid h
  have hn := h.ar.le
  obtain ⟨m, hm⟩ : ∃ m, Hid ((chL pr y).length = m) := ⟨_, Lib.hid rfl⟩
  have hmn : m ≤ 1000 := by rw [← hm.out]; have := (chL_bound hpr.out (by omega) nb y hy1 (Nat.le_refl _)).1; omega
  clear h
  go_enter Tryz.func104, Tryz.ntmps104
  go_wp2_with (first
    | (go_at_call 77; (with_reducible refine (bchain_is y nb hy0 hy1 hnb (Lib.hid (fun i hi => thN_at hi)) hpr _ H.out).mono ?_); rintro e w1 ⟨v', rfl, hr, hb⟩; obtain ⟨a9, c9, hv9⟩ := own_slice hr m hm; have HCo := Lib.hid (scon_any w1 _ v' _ m hm hmn z t ht a9 c9 hv9 hr); subst hv9; have HB1 := Lib.hid hb; clear hr hb)
    | (go_at_call 71; (with_reducible refine HCo.out.mono ?_); rintro e w2 ⟨rfl, rfl⟩))
  go_ret
  exact ⟨rfl, HB1.out⟩
end Go.Proofs.YtncopdhhchmpeaaGreatDoor
namespace Go.Proofs.YtncopdhhchmpeaaGreatDoor
open Go.ChangeShapes Go.WideShapes Go.ChangeAt Go.RowKit
set_option linter.unusedVariables false
set_option linter.unusedSimpArgs false
/-- Where all of it lies. -/
structure BLoc where
  mb : Nat
  S : Nat
  a : Shp
  b : Shp
  N : Nat
  cb : Nat
  dB : Nat
  dP : Nat
  dp : Nat
  dR : Nat
  dG : Nat
  dQ : Nat
  dn : Nat
  dc : Nat
  bB : Nat
  P : Nat
  p : Nat
  B : Nat
  A : Nat
  G1 : Nat
  G2 : Nat
  G3 : Nat
  n : Nat
  c : Nat
  T : Nat
  z : Int
/-- What it is. -/
structure BSt where
  nt : Nat → Bool
  nv : Nat → Int
  nW : Nat → Nat → Value
  pt : Nat → Bool
  pv : Nat → Int
  pW : Nat → Nat → Int
  dt : Nat → Bool
  dv : Nat → Int
  dW : Nat → Nat → Value
  nb : Nat
  pr : Nat → Int
  us : Nat → Int
  lm : Nat → Int
  o1 : Nat → Int
  v1 : Nat → Int
  o2 : Nat → Int
  v2 : Nat → Int
  o3 : Nat → Int
  v3 : Nat → Int
def BKD (w : World) (L : BLoc) (D : BSt) : Prop := BkAt w L.bB L.P L.p L.B L.A L.G1 L.G2 L.G3 L.n L.c L.mb L.dP (thN D.nb) (fun _ => 0) D.pr D.us D.lm D.o1 D.v1 D.o2 D.v2 D.o3 D.v3
def DMD (w : World) (L : BLoc) (D : BSt) : Prop := DsAt w L.dB L.dP L.dp L.dR L.dG L.dQ L.dn L.dc D.dt D.dv D.dW
def MMD (w0 w : World) (L : BLoc) (D : BSt) : Prop := MemAt w0 w L.mb L.S L.a L.b L.N L.cb L.z D.nt D.nv D.nW D.pt D.pv D.pW 0 (.slice none 0 0) []
/-- Banks over domains over a memory over a law's start. -/
structure BW (w0 w : World) (L : BLoc) (D : BSt) : Prop where
  m : MMD w0 w L D
  d : DMD w L D
  k : BKD w L D
  md : L.mb < L.dB ∧ L.cb < L.dB ∧ L.N ≤ L.dB
  db : L.dP < L.bB ∧ L.dp < L.bB ∧ L.dR < L.bB ∧ L.dG < L.bB ∧ L.dQ < L.bB
  dl : L.dB ≤ L.bB
  pk : PrOk D.nb D.pr
  nn : D.nb ≤ L.n
  tt : L.bB ≤ L.T ∧ L.P < L.T ∧ L.p < L.T ∧ L.B < L.T ∧ L.A < L.T ∧ L.G1 < L.T ∧ L.G2 < L.T ∧ L.G3 < L.T
  tw : L.T ≤ w.heap.size
/-- What lies behind all of it stays. -/
def UpT (T : Nat) (w w' : World) : Prop := w.heap.size ≤ w'.heap.size ∧ ∀ k, T ≤ k → k < w.heap.size → w'.heap[k]? = w.heap[k]?
theorem UpT.refl (T : Nat) (w : World) : UpT T w w := ⟨Nat.le_refl _, fun _ _ _ => rfl⟩
theorem UpT.trans {T : Nat} {w w1 w2 : World} (h : UpT T w w1) (h2 : UpT T w1 w2) : UpT T w w2 := ⟨Nat.le_trans h.1 h2.1, fun k h3 h4 => (h2.2 k h3 (Nat.lt_of_lt_of_le h4 h.1)).trans (h.2 k h3 h4)⟩
theorem UpT.below {T : Nat} {w w1 : World} (h : Below w.heap.size w w1) : UpT T w w1 := ⟨h.size, fun k _ hk => h.block k hk⟩
theorem UpT.grown {T g : Nat} {w w1 : World} (h : w.grownBy w1 (some g)) (hg : g < T) : UpT T w w1 := ⟨h.size, fun k hk hk2 => h.block k hk2 (fun e => by injection e with e; omega)⟩
theorem UpT.pb {T B G : Nat} {w w1 : World} (h : PBelow w w1 B G) (h1 : B < T) (h2 : G < T) : UpT T w w1 := ⟨h.2.2.2.1, fun k hk hk2 => h.2.2.2.2 k hk2 (by omega) (by omega)⟩
section
variable {w0 w w' : World} {L : BLoc} {D D' : BSt}
theorem BW.bel (h : BW w0 w L D) : Below w0.heap.size w0 w := h.m.sv.bel
theorem BW.mn (h : BW w0 w L D) : w0.heap.size ≤ L.N := h.m.n0
theorem BW.bl (h : BW w0 w L D) : L.bB ≤ w.heap.size := Nat.le_of_lt (Nat.lt_of_le_of_lt h.k.pb h.k.pl)
theorem BW.dlow (h : BW w0 w L D) : L.dB ≤ w.heap.size := Nat.le_trans h.dl h.bl
theorem BW.below (h : BW w0 w L D) (hb : Below w.heap.size w w') : BW w0 w' L D := ⟨MemAt.below h.m hb, DsAt.below h.d hb, BkAt.below h.k hb, h.md, h.db, h.dl, h.pk, h.nn, h.tt, Nat.le_trans h.tw hb.size⟩
/-- What lies behind a memory was changed. -/
theorem MMD.low (h : MMD w0 w L D) {M : Nat} (hb : Below M w w') (h1 : L.mb < M) (h2 : L.cb < M) (h3 : L.N ≤ M) : MMD w0 w' L D := by
  have e := hb.block L.mb h1
  exact ⟨⟨h.sv.bel.trans (hb.mono (Nat.le_trans h.n0 h3)), h.sv.wb, h.sv.st.under h.lo hb.size (fun k hk => hb.block k (by omega))⟩, h.lo, h.n0, Nat.le_trans h.nN hb.size, (World.cell?_of_block (a := ⟨L.mb, 0, none⟩) e).trans h.m0, (World.cell?_of_block (a := ⟨L.mb, 1, none⟩) e).trans h.m1, Nat.lt_of_lt_of_le h.ml hb.size, h.mn, h.mo, ⟨h.ca.nb, Nat.lt_of_lt_of_le h.ca.cl hb.size, (World.cell?_of_block (a := ⟨L.cb, 0, none⟩) (hb.block L.cb h2)).trans h.ca.c0, (World.cell?_of_block (a := ⟨L.cb, 1, none⟩) (hb.block L.cb h2)).trans h.ca.c1, (World.cell?_of_block (a := ⟨L.cb, 2, none⟩) (hb.block L.cb h2)).trans h.ca.c2, fun j => (World.frozen?_of_block (a := ⟨L.cb, j, none⟩) (hb.block L.cb h2)).trans (h.ca.fr j), World.ownsRow_nil _ _ _ _, h.ca.ne, fun e he => by cases he⟩, h.ok⟩
theorem RowO.same {base e s n : Nat} {T : TypeId} {G : Nat} {xs : List Value} (h : w.ownsRow base T s (.slice (some ⟨G, 0, none⟩) n n) n xs) (hb : w'.heap[G]? = w.heap[G]?) : w'.ownsRow base T s (.slice (some ⟨G, 0, none⟩) n n) n xs := by
  refine ⟨h.1, ?_⟩
  rcases h.2 with hn | ⟨g', cap, cur, e', hB, hg, rest⟩
  · exact .inl hn
  · refine .inr ⟨g', cap, cur, e', hB, ?_, rest⟩
    simp at e'
    rw [← e'.1, hb, e'.1]; exact hg
theorem DMD.low (h : DMD w L D) {M : Nat} (hb : Below M w w') (h1 : L.dP < M ∧ L.dp < M ∧ L.dR < M ∧ L.dG < M ∧ L.dQ < M) : DMD w' L D := by
  have hP := hb.block L.dP h1.1
  exact ⟨⟨Nat.lt_of_lt_of_le h.pl.pl hb.size, h.pl.pb, (World.cell?_of_block (a := ⟨L.dP, 0, none⟩) hP).trans h.pl.f0, (World.cell?_of_block (a := ⟨L.dP, 1, none⟩) hP).trans h.pl.f1, h.pl.ar.same2 hb.size (hb.block _ h1.2.1) (hb.block _ h1.2.2.1), RowO.same (e := 0) h.pl.row (hb.block _ h1.2.2.2.1), h.pl.n1, h.pl.n2, h.pl.n3, h.pl.n4⟩, (World.cell?_of_block (a := ⟨L.dP, 2, none⟩) hP).trans h.f2, RowO.same (e := 0) h.qs (hb.block _ h1.2.2.2.2), h.q1, h.q2, h.q3⟩
/-- The banks were changed, and nothing else that was there. -/
theorem BW.bank (h : BW w0 w L D) (hk : BKD w' L D') (hb : Below L.bB w w') (h1 : D' = { D with nb := D'.nb, pr := D'.pr, us := D'.us, lm := D'.lm, o1 := D'.o1, v1 := D'.v1, o2 := D'.o2, v2 := D'.v2, o3 := D'.o3, v3 := D'.v3 }) (hp : PrOk D'.nb D'.pr) (hn : D'.nb ≤ L.n) : BW w0 w' L D' := by
  have hm := MMD.low h.m hb (by have := h.md; have := h.dl; omega) (by have := h.md; have := h.dl; omega) (by have := h.md; have := h.dl; omega)
  have hd := DMD.low h.d hb h.db
  refine ⟨?_, ?_, hk, h.md, h.db, h.dl, hp, hn, h.tt, Nat.le_trans h.tw hb.size⟩
  · rw [h1]; exact hm
  · rw [h1]; exact hd
/-- The pages were changed. -/
theorem BW.page (h : BW w0 w L D) {pt' : Nat → Bool} {pv' : Nat → Int} {pW' : Nat → Nat → Int} (hP : PgAt w' L.b.b L.b.P L.b.p L.b.B L.b.G L.b.n L.b.c pt' pv' pW') (hb : PBelow w w' L.b.B L.b.G) : BW w0 w' L { D with pt := pt', pv := pv', pW := pW' } := by
  have hl := h.m.lo.p
  have hmd := h.md
  have hdl := h.dl
  refine ⟨MemAt.page h.m hP hb ways_nil, DsAt.same h.d hb.2.2.2.1 (fun k hk1 hk2 => hb.2.2.2.2 k hk2 (by omega) (by omega)), BkAt.same h.k hb.2.2.2.1 (fun k hk1 hk2 => hb.2.2.2.2 k hk2 (by omega) (by omega)), h.md, h.db, h.dl, h.pk, h.nn, h.tt, Nat.le_trans h.tw hb.2.2.2.1⟩
theorem BW.node (h : BW w0 w L D) {nt' : Nat → Bool} {nv' : Nat → Int} {nW' : Nat → Nat → Value} (hN : NdAt w' L.a.b L.a.P L.a.p L.a.B L.a.G L.a.n L.a.c nt' nv' nW') (hb : PBelow w w' L.a.B L.a.G) : BW w0 w' L { D with nt := nt', nv := nv', nW := nW' } := by
  have hl := h.m.lo.n
  have hmd := h.md
  have hdl := h.dl
  refine ⟨MemAt.node h.m hN hb ways_nil, DsAt.same h.d hb.2.2.2.1 (fun k hk1 hk2 => hb.2.2.2.2 k hk2 (by omega) (by omega)), BkAt.same h.k hb.2.2.2.1 (fun k hk1 hk2 => hb.2.2.2.2 k hk2 (by omega) (by omega)), h.md, h.db, h.dl, h.pk, h.nn, h.tt, Nat.le_trans h.tw hb.2.2.2.1⟩
/-- The domains were changed. -/
theorem BW.doms (h : BW w0 w L D) {dt' : Nat → Bool} {dv' : Nat → Int} {dW' : Nat → Nat → Value} (hD : DsAt w' L.dB L.dP L.dp L.dR L.dG L.dQ L.dn L.dc dt' dv' dW') (hb : PBelow w w' L.dR L.dG) : BW w0 w' L { D with dt := dt', dv := dv', dW := dW' } := by
  have hdb := h.db
  have hmd := h.md
  have hl1 := h.d.pl.ar.lt.1
  have hl2 := h.d.pl.gl.1
  have hb2 : Below L.dB w w' := hb.below hl1 hl2 h.dlow
  exact ⟨MMD.low h.m hb2 hmd.1 hmd.2.1 hmd.2.2, hD, BkAt.same h.k hb.2.2.2.1 (fun k hk1 hk2 => hb.2.2.2.2 k hk2 (by omega) (by omega)), h.md, h.db, h.dl, h.pk, h.nn, h.tt, Nat.le_trans h.tw hb.2.2.2.1⟩
end
theorem chL_nodup {nb : Nat} {pr : Nat → Int} (hp : PrOk nb pr) (hb : nb ≤ 256) : ∀ (q : Nat) (y : Int), y < q → q ≤ nb → (chL pr y).Nodup := by
  intro q
  induction q with
  | zero => intro y hy _; rw [chL_neg pr y (by omega)]; exact List.nodup_nil
  | succ q ih =>
    intro y hy hq
    by_cases h0 : y < 0
    · rw [chL_neg pr y h0]; exact List.nodup_nil
    · obtain ⟨k, rfl⟩ : ∃ k : Nat, y = k := ⟨y.toNat, by omega⟩
      have h := hp k (by omega)
      rw [chL_cons hp k (by omega) hb, List.nodup_cons]
      exact ⟨fun hm => by have := ((chL_bound hp hb k (pr k) (by omega) (by omega)).2 _ hm).2; omega, ih (pr k) (by omega) (by omega)⟩
/-- So many more for each of a list. -/
def addL (us : Nat → Int) (l : List Int) (x : Int) : Nat → Int := fun i => if l.contains (i : Int) = true then us i + x else us i
theorem addL_nil (us : Nat → Int) (x : Int) : addL us [] x = us := by funext i; simp [addL]
theorem addL_snoc (us : Nat → Int) (l : List Int) (q : Nat) (x : Int) (hq : (q : Int) ∉ l) : upd (addL us l x) q (us q + x) = addL us (l ++ [(q : Int)]) x := by
  funext i
  unfold upd addL
  by_cases e : i = q
  · subst e; simp
  · have e2 : ¬ (i : Int) = (q : Int) := by omega
    simp [e, e2]
theorem take_snoc (L : List Int) (k : Nat) (h : k < L.length) : L.take (k + 1) = L.take k ++ [L.getD k 0] := by
  rw [List.take_succ_eq_append_getElem h]
  simp [List.getD, h]
theorem take_notin (L : List Int) (h : L.Nodup) (k : Nat) (hk : k < L.length) : L.getD k 0 ∉ L.take k := by
  intro hm
  have e : L.getD k 0 = L[k] := by simp [List.getD, hk]
  rw [e] at hm
  rw [List.mem_iff_getElem] at hm
  obtain ⟨i, hi, he⟩ := hm
  simp at hi
  rw [List.getElem_take] at he
  exact List.pairwise_iff_getElem.1 h i k (by omega) hk (by omega) he
set_option maxRecDepth 100000 in
set_option maxHeartbeats 1000000 in
theorem bcount_is {base P p B A G1 G2 G3 n c mb db nb : Nat} {pr us lm o1 v1 o2 v2 o3 v3 : Nat → Int} (l : List Int) (k : Nat) (hk : Hid (l.length = k)) (hk1 : k ≤ 1000) (a : Option Addr) (c2 : Nat) (hl : Hid (∀ z, z ∈ l → 0 ≤ z ∧ z < n)) (hnd : Hid (l.Nodup)) (x : Int) (hx : -1000 ≤ x ∧ x ≤ 1000) (hu : Hid (∀ i, i < n → -1000000 ≤ us i ∧ us i ≤ 1000000)) (w : World) (h : BkAt w base P p B A G1 G2 G3 n c mb db (thN nb) (fun _ => 0) pr us lm o1 v1 o2 v2 o3 v3) (hr : ∀ i, i < k → ∃ g, a = some ⟨g, 0, none⟩ ∧ g < w.heap.size ∧ g ≠ A ∧ w.cell? ⟨g, i, none⟩ = some (.int .i64 (l.getD i 0))) :
    Calls Tryz.prog 76 #[.pointer (some ⟨P, 0, none⟩), .slice a k c2, .int .i64 x] w fun e w' => e = .returned (.tuple #[]) ∧ BkAt w' base P p B A G1 G2 G3 n c mb db (thN nb) (fun _ => 0) pr (addL us l x) lm o1 v1 o2 v2 o3 v3 ∧ w.grownBy w' (some A) := by
  have H := Lib.hid h
  have HR := Lib.hid hr
  have hn := h.ar.le
  clear h hr
  go_enter Tryz.func76, Tryz.ntmps76
  go_wp2_with fail
  go_loopw [10] (fun i wr => ∃ j : Nat, j ≤ k ∧ i = .int .i64 j ∧ BkAt wr base P p B A G1 G2 G3 n c mb db (thN nb) (fun _ => 0) pr (addL us (l.take j) x) lm o1 v1 o2 v2 o3 v3 ∧ w.grownBy wr (some A)) (fun i _ => k - (intOf i).toNat)
  case atStart => exact ⟨0, by omega, rfl, by rw [List.take_zero, addL_nil]; exact H.out, ⟨rfl, rfl, rfl, Nat.le_refl _, fun _ _ _ => rfl⟩⟩
  case round =>
    obtain ⟨j, hj, rfl, hB, hg⟩ := hrel
    have HB := Lib.hid hB
    have HG := Lib.hid hg
    clear hB hg
    by_cases hlt : j < k
    · obtain ⟨g, hag, hgl, hgA, hc⟩ := HR.out j hlt
      have hc2 := (World.cell?_of_block (a := ⟨g, j, none⟩) (HG.out.block g hgl (fun e => hgA (by injection e)))).trans hc
      have hjl : j < l.length := by rw [hk.out]; exact hlt
      have hm : l.getD j 0 ∈ l := by simp [List.getD, hjl]
      have hq := hl.out _ hm
      have hni := take_notin l hnd.out j hjl
      have hts := take_snoc l j hjl
      obtain ⟨q, hq0⟩ : ∃ q : Nat, l.getD j 0 = q := ⟨(l.getD j 0).toNat, by omega⟩
      rw [hq0] at hc2 hq hni hts
      have hqn : q < n := by omega
      have hv : addL us (l.take j) x q = us q := by
        unfold addL
        rw [if_neg (by rw [List.contains_iff_mem]; exact hni)]
      have c1 := HB.out.ac1 q hqn
      rw [hv] at c1
      have hu2 := hu.out q hqn
      have f3 := HB.out.f3
      have z1 := HB.out.ac.fr (q * 3 + 1)
      have HS := HB.out.setU q hqn (us q + x)
      rw [addL_snoc us (l.take j) q x hni, ← hts] at HS
      have HS := Lib.hid HS
      have HGS := Lib.hid (grown_more HG.out ((HB.out.ac.set q 1 hqn (by decide) (.int .i64 (us q + x))).2))
      have hwr : IntKind.i64.wrap (us q + x) = us q + x := by rw [IntKind.wrap_i64]; omega
      generalize us q = uq at c1 hwr HS HGS
      have k0 : (0 : Int) ≤ j := by omega
      have k1 : (0 : Int) ≤ q := by omega
      have k2 : (q : Int) < n := by omega
      subst hag
      clear hc hts hni hm hq hq0 hv hu2
      go_wp2_with fail
      go_roundw
      case rel => exact ⟨j + 1, by omega, by go_num, HS.out.1, HGS.out⟩
      case measure => simp [intOf]; omega
    · obtain rfl : j = k := by omega
      have hdd : decide (j < j) = false := by simp
      have HT : Hid (l.take j = l) := Lib.hid (List.take_of_length_le (by rw [hk.out]; exact Nat.le_refl _))
      go_wp2_with fail
      go_end0
      exact ⟨rfl, by rw [← HT.out]; exact HB.out, HG.out⟩
set_option maxRecDepth 100000 in
theorem bfull_is {base P p B A G1 G2 G3 n c mb db nb : Nat} {pr us lm o1 v1 o2 v2 o3 v3 : Nat → Int} (q : Nat) (hq : q < n) (t : Bool) (ht : Hid (decide (lm q ≤ us q) = t)) (w : World) (h : BkAt w base P p B A G1 G2 G3 n c mb db (thN nb) (fun _ => 0) pr us lm o1 v1 o2 v2 o3 v3) :
    Calls Tryz.prog 90 #[.pointer (some ⟨P, 0, none⟩), .int .i64 (q : Int)] w fun e w' => e = .returned (.bool t) ∧ Below w.heap.size w w' := by
  have hd := Lib.hid (h.below (Below.refl w.heap.size w).drew)
  have f3 := h.f3
  have c1 := h.ac1 q hq
  have c2 := h.ac2 q hq
  have ht2 := ht.out
  have k1 : (0 : Int) ≤ q := by omega
  have k2 : (q : Int) < n := by omega
  clear h ht
  generalize us q = x at c1 ht2
  generalize lm q = y at c2 ht2
  go_enter Tryz.func90, Tryz.ntmps90
  go_wp2_with fail
  go_quiet (fail)
  go_wp2_with fail
  go_ret
  exact ⟨rfl, below_drewN (Below.refl _ _) _⟩
end Go.Proofs.YtncopdhhchmpeaaGreatDoor
namespace Go.Proofs.YtncopdhhchmpeaaGreatDoor
open Go.ChangeShapes Go.WideShapes Go.ChangeAt Go.RowKit
set_option linter.unusedVariables false
set_option linter.unusedSimpArgs false
abbrev fnFullV (P : Nat) : Value := .func (.func 90) #[.pointer (some ⟨P, 0, none⟩)] #[]
section
variable {w0 w w' : World} {L : BLoc} {D : BSt}
theorem BW.kk (h : BW w0 w L D) : BkAt w L.bB L.P L.p L.B L.A L.G1 L.G2 L.G3 L.n L.c L.mb L.dP (thN D.nb) (fun _ => 0) D.pr D.us D.lm D.o1 D.v1 D.o2 D.v2 D.o3 D.v3 := h.k
theorem BW.dd (h : BW w0 w L D) : DsAt w L.dB L.dP L.dp L.dR L.dG L.dQ L.dn L.dc D.dt D.dv D.dW := h.d
theorem BW.mm (h : BW w0 w L D) : MemAt w0 w L.mb L.S L.a L.b L.N L.cb L.z D.nt D.nv D.nW D.pt D.pv D.pW 0 (.slice none 0 0) [] := h.m
theorem BW.n256 (h : BW w0 w L D) : L.n ≤ 256 := h.kk.ar.le
theorem BW.pn (h : BW w0 w L D) : L.b.n ≤ 256 := h.mm.sv.st.pg.ar.le
theorem BW.an (h : BW w0 w L D) : L.a.n ≤ 256 := h.mm.sv.st.nd.ar.le
theorem BW.dn256 (h : BW w0 w L D) : L.dn ≤ 256 := h.dd.pl.ar.le
theorem BW.lowT (h : BW w0 w L D) : L.mb < L.T ∧ L.S < L.T ∧ L.a.B < L.T ∧ L.a.G < L.T ∧ L.b.B < L.T ∧ L.b.G < L.T ∧ L.cb < L.T ∧ L.dR < L.T ∧ L.dG < L.T := by
  have h1 := h.mm.lo
  have h2 := h.md
  have h3 := h.dl
  have h4 := h.tt
  have h5 := h.db
  have h6 := h1.s
  have h7 := h1.n
  have h8 := h1.p
  omega
end
/-- A row of numbers that was made behind it all stays. -/
theorem rowT {w1 : World} {T M0 : Nat} {v : Value} {l : List Int} {a : Option Addr} {m c : Nat} (hr : w1.ownsRow M0 3 1 v l.length (l.map (Value.int .i64))) (hv : v = .slice a m c) (hm : l.length = m) (hT : T ≤ M0) (W : World) (hu : UpT T w1 W) : ∀ i, i < m → ∃ g, a = some ⟨g, 0, none⟩ ∧ T ≤ g ∧ g < W.heap.size ∧ W.cell? ⟨g, i, none⟩ = some (.int .i64 (l.getD i 0)) := by
  intro i hi
  obtain ⟨a', c', hv', ha⟩ := own_ints hr
  rw [hv] at hv'
  have e1 : a = a' := by injection hv'
  obtain ⟨g, hg, hc, hB, hlt⟩ := ha (by omega)
  rw [← e1] at hg
  exact ⟨g, hg, by omega, Nat.lt_of_lt_of_le hlt hu.1, (World.cell?_of_block (a := ⟨g, i, none⟩) (hu.2 g (by omega) hlt)).trans (hc i (by omega))⟩
def fullB (us lm : Nat → Int) (z : Int) : Bool := decide (lm z.toNat ≤ us z.toNat)
set_option maxRecDepth 100000 in
set_option maxHeartbeats 1000000 in
theorem bidx_no {base P p B A G1 G2 G3 n c mb db nb : Nat} {pr us lm o1 v1 o2 v2 o3 v3 : Nat → Int} (l : List Int) (k : Nat) (hk : Hid (l.length = k)) (hk1 : k ≤ 1000) (a : Option Addr) (c2 : Nat) (hl : Hid (∀ z, z ∈ l → 0 ≤ z ∧ z < n)) (hno : Hid (∀ i, i < k → fullB us lm (l.getD i 0) = false)) (w : World) (h : BkAt w base P p B A G1 G2 G3 n c mb db (thN nb) (fun _ => 0) pr us lm o1 v1 o2 v2 o3 v3) (hr : ∀ i, i < k → ∃ g, a = some ⟨g, 0, none⟩ ∧ g < w.heap.size ∧ w.cell? ⟨g, i, none⟩ = some (.int .i64 (l.getD i 0))) :
    Calls Tryz.prog 129 #[.slice a k c2, fnFullV P] w fun e w' => e = .returned (.int .i64 (-1)) ∧ Below w.heap.size w w' := by
  have H := Lib.hid h
  have HR := Lib.hid hr
  clear h hr
  go_enter Tryz.func129, Tryz.ntmps129
  go_wp2_with fail
  go_loopw [8] (fun i wr => ∃ j : Nat, j ≤ k ∧ i = .int .i64 j ∧ Below w.heap.size w wr) (fun i _ => k - (intOf i).toNat)
  case atStart => exact ⟨0, by omega, rfl, Below.refl _ _⟩
  case round =>
    obtain ⟨j, hj, rfl, hB⟩ := hrel
    have HB := Lib.hid hB
    by_cases hlt : j < k
    · obtain ⟨g, hag, hgl, hc⟩ := HR.out j hlt
      have hc2 := (hB.cell (p := ⟨g, j, none⟩) hgl).trans hc
      have hm : l.getD j 0 ∈ l := by have := hk.out; simp [List.getD, show j < l.length by omega]
      have hq := hl.out _ hm
      have hf := hno.out j hlt
      obtain ⟨q, hq0⟩ : ∃ q : Nat, l.getD j 0 = q := ⟨(l.getD j 0).toNat, by omega⟩
      rw [hq0] at hc2 hq hf
      have HF : Hid (decide (lm q ≤ us q) = false) := Lib.hid hf
      have hqn : q < n := by omega
      subst hag
      have k0 : (0 : Int) ≤ j := by omega
      clear hB hc hm hq hq0 hf
      go_wp2_with (first | (go_at_call 90; (with_reducible refine (bfull_is q hqn false HF _ (H.out.below HB.out)).mono ?_); rintro e w1 ⟨rfl, hb⟩; have HB2 := Lib.hid (HB.out.trans (hb.mono HB.out.size)); clear hb hc2))
      go_roundw
      case rel => exact ⟨j + 1, by omega, by go_num, HB2.out⟩
      case measure => simp [intOf]; omega
    · obtain rfl : j = k := by omega
      have hdd : decide (j < j) = false := by simp
      clear hB
      go_wp2
      go_ret
      exact ⟨rfl, HB.out⟩
set_option maxRecDepth 100000 in
set_option maxHeartbeats 1000000 in
theorem bidx_yes {base P p B A G1 G2 G3 n c mb db nb : Nat} {pr us lm o1 v1 o2 v2 o3 v3 : Nat → Int} (l : List Int) (k : Nat) (hk : Hid (l.length = k)) (hk1 : k ≤ 1000) (a : Option Addr) (c2 : Nat) (hl : Hid (∀ z, z ∈ l → 0 ≤ z ∧ z < n)) (s : Nat) (hs : s < k) (hno : Hid (∀ i, i < s → fullB us lm (l.getD i 0) = false)) (hyes : Hid (fullB us lm (l.getD s 0) = true)) (w : World) (h : BkAt w base P p B A G1 G2 G3 n c mb db (thN nb) (fun _ => 0) pr us lm o1 v1 o2 v2 o3 v3) (hr : ∀ i, i < k → ∃ g, a = some ⟨g, 0, none⟩ ∧ g < w.heap.size ∧ w.cell? ⟨g, i, none⟩ = some (.int .i64 (l.getD i 0))) :
    Calls Tryz.prog 129 #[.slice a k c2, fnFullV P] w fun e w' => e = .returned (.int .i64 s) ∧ Below w.heap.size w w' := by
  have H := Lib.hid h
  have HR := Lib.hid hr
  clear h hr
  go_enter Tryz.func129, Tryz.ntmps129
  go_wp2_with fail
  go_loopw [8] (fun i wr => ∃ j : Nat, j ≤ s ∧ i = .int .i64 j ∧ Below w.heap.size w wr) (fun i _ => k - (intOf i).toNat)
  case atStart => exact ⟨0, by omega, rfl, Below.refl _ _⟩
  case round =>
    obtain ⟨j, hj, rfl, hB⟩ := hrel
    have HB := Lib.hid hB
    have hlt : j < k := by omega
    obtain ⟨g, hag, hgl, hc⟩ := HR.out j hlt
    have hc2 := (hB.cell (p := ⟨g, j, none⟩) hgl).trans hc
    have hm : l.getD j 0 ∈ l := by have := hk.out; simp [List.getD, show j < l.length by omega]
    have hq := hl.out _ hm
    obtain ⟨q, hq0⟩ : ∃ q : Nat, l.getD j 0 = q := ⟨(l.getD j 0).toNat, by omega⟩
    rw [hq0] at hc2 hq
    have hqn : q < n := by omega
    subst hag
    have k0 : (0 : Int) ≤ j := by omega
    by_cases hjs : j < s
    · have hf := hno.out j hjs
      rw [hq0] at hf
      have HF : Hid (decide (lm q ≤ us q) = false) := Lib.hid hf
      clear hB hc hm hq hq0 hf
      go_wp2_with (first | (go_at_call 90; (with_reducible refine (bfull_is q hqn false HF _ (H.out.below HB.out)).mono ?_); rintro e w1 ⟨rfl, hb⟩; have HB2 := Lib.hid (HB.out.trans (hb.mono HB.out.size)); clear hb hc2))
      go_roundw
      case rel => exact ⟨j + 1, by omega, by go_num, HB2.out⟩
      case measure => simp [intOf]; omega
    · obtain rfl : j = s := by omega
      have hf := hyes.out
      rw [hq0] at hf
      have HF : Hid (decide (lm q ≤ us q) = true) := Lib.hid hf
      clear hB hc hm hq hq0 hf
      go_wp2_with (first | (go_at_call 90; (with_reducible refine (bfull_is q hqn true HF _ (H.out.below HB.out)).mono ?_); rintro e w1 ⟨rfl, hb⟩; have HB2 := Lib.hid (HB.out.trans (hb.mono HB.out.size)); clear hb hc2))
      go_ret
      exact ⟨rfl, HB2.out⟩
set_option maxRecDepth 100000 in
theorem bcf_is {base P p B A G1 G2 G3 n c mb db nb : Nat} {pr us lm o1 v1 o2 v2 o3 v3 : Nat → Int} (l : List Int) (k : Nat) (hk : Hid (l.length = k)) (hk1 : k ≤ 1000) (a : Option Addr) (c2 : Nat) (hl : Hid (∀ z, z ∈ l → 0 ≤ z ∧ z < n)) (t : Bool) (ht : Hid (l.any (fullB us lm) = t)) (w : World) (h : BkAt w base P p B A G1 G2 G3 n c mb db (thN nb) (fun _ => 0) pr us lm o1 v1 o2 v2 o3 v3) (hr : ∀ i, i < k → ∃ g, a = some ⟨g, 0, none⟩ ∧ g < w.heap.size ∧ w.cell? ⟨g, i, none⟩ = some (.int .i64 (l.getD i 0))) :
    Calls Tryz.prog 89 #[.slice a k c2, fnFullV P] w fun e w' => e = .returned (.bool t) ∧ Below w.heap.size w w' := by
  have hkl := hk.out
  rcases first_at (fun i => fullB us lm (l.getD i 0)) k with hno | ⟨s, hs, hy, hno⟩
  · have ht0 : t = false := by
      rw [← ht.out, List.any_eq_false]
      intro z hz
      obtain ⟨i, hi, rfl⟩ := (mem_getD l z).1 hz
      rw [hno i (by omega)]
      decide
    subst ht0
    have HC := Lib.hid (bidx_no l k hk hk1 a c2 hl (Lib.hid hno) w h hr)
    clear h hr hno ht hkl
    go_enter Tryz.func89, Tryz.ntmps89
    go_wp2_with (first | (go_at_call 129; (with_reducible refine HC.out.mono ?_); rintro e w1 ⟨rfl, hb⟩; have HB := Lib.hid hb; clear hb))
    go_ret
    exact ⟨rfl, HB.out⟩
  · have ht1 : t = true := by
      rw [← ht.out, List.any_eq_true]
      exact ⟨l.getD s 0, (mem_getD l _).2 ⟨s, by omega, rfl⟩, hy⟩
    subst ht1
    have HC := Lib.hid (bidx_yes l k hk hk1 a c2 hl s hs (Lib.hid hno) (Lib.hid hy) w h hr)
    have s0 : decide ((0 : Int) ≤ (s : Int)) = true := decide_eq_true (by omega)
    clear h hr hno hy ht hkl
    go_enter Tryz.func89, Tryz.ntmps89
    go_wp2_with (first | (go_at_call 129; (with_reducible refine HC.out.mono ?_); rintro e w1 ⟨rfl, hb⟩; have HB := Lib.hid hb; clear hb))
    go_ret
    exact ⟨rfl, HB.out⟩
set_option maxRecDepth 100000 in
theorem bpageof_ok (a : Option Addr) (m c2 : Nat) (xs : List Int) (hm : Hid (xs.length = m)) (hx : m ≤ 32) (w : World) (hs : ∀ B G, w.heap.size ≤ B → w.heap.size ≤ G → SrcU w a xs B G) :
    Calls Tryz.prog 59 #[.slice a m c2] w fun e w' => e = .returned .nilIface ∧ Below w.heap.size w w' := by
  have HS := Lib.hid hs
  clear hs
  go_enter Tryz.func59, Tryz.ntmps59
  go_wp2_with (first
    | (go_at_call 95; (with_reducible refine (pnew_ok 1 1 (Lib.hid rfl) (by decide) (by decide) _).mono ?_); rintro e w1 ⟨P, p, B, G, rfl, hP, hb⟩; have HP := Lib.hid hP; have HB := Lib.hid hb; have HS1 : Hid (SrcU w1 a xs B G) := Lib.hid ⟨fun j hj => by obtain ⟨ad, h1, h2, h3, h4, h5⟩ := (HS.out B G hP.ar.lt.1 (hP.row.lt G rfl).1).src j hj; exact ⟨ad, h1, Nat.lt_of_lt_of_le h2 hb.size, h3, h4, (hb.cell (p := ad.add j) (by rw [add_block']; exact h2)).trans h5⟩⟩; clear hP hb)
    | (go_at_call 61; (with_reducible refine (pmake_at 0 a m c2 xs hm hx 0 (Lib.hid rfl) (by decide) (Lib.hid (by decide)) (Lib.hid (by intro i hi; omega)) 0 (Lib.hid rfl) _ HP.out HS1.out).mono ?_); rintro e w2 ⟨rfl, hP2, hb2⟩; have HB2 := Lib.hid (HB.out.trans (hb2.below (b := w.heap.size) HP.out.ar.lt.1 (HP.out.row.lt G rfl).1 HB.out.size)); clear hP2 hb2))
  go_ret
  exact ⟨rfl, HB2.out⟩
set_option maxRecDepth 100000 in
set_option maxHeartbeats 1000000 in
theorem bpgcl_ok {w0 : World} {L : BLoc} {D : BSt} (x y : Nat) (a : Option Addr) (m c2 : Nat) (xs : List Int) (hm : Hid (xs.length = m)) (hx : m ≤ 32) (j : Nat) (hj : j < L.b.n) (hyes : Hid (freeB D.pt D.pv j = true)) (hno : Hid (∀ i, i < j → freeB D.pt D.pv i = false)) (v : Int) (hv : Hid (D.pv j = v)) (w : World) (h : BW w0 w L D) (hxy : L.T ≤ x ∧ x < w.heap.size ∧ L.T ≤ y ∧ y < w.heap.size) (cx : w.cell? ⟨x, 0, none⟩ = some (.pointer (some ⟨L.P, 0, none⟩))) (cy : w.cell? ⟨y, 0, none⟩ = some (.slice a m c2)) (hs : SrcU w a xs L.b.B L.b.G) :
    Calls Tryz.prog 60 #[.pointer (some ⟨x, 0, none⟩), .pointer (some ⟨y, 0, none⟩)] w fun e w' => e = .returned (.tuple #[.int .i64 j, .int .i64 v, .nilIface]) ∧ BW w0 w' L { D with pt := upd D.pt j true, pW := fresh D.pW j xs } ∧ PBelow w w' L.b.B L.b.G := by
  obtain ⟨wD, hwD⟩ : ∃ wD, wD = w.drew := ⟨_, rfl⟩
  have hbD : Below w.heap.size w wD := by rw [hwD]; exact (Below.refl _ _).drew
  have HD := Lib.hid (h.below hbD)
  have HSr : Hid (SrcU wD a xs L.b.B L.b.G) := Lib.hid ⟨fun q hq => by obtain ⟨ad, h1, h2, h3, h4, h5⟩ := hs.src q hq; exact ⟨ad, h1, Nat.lt_of_lt_of_le h2 hbD.size, h3, h4, (hbD.cell (p := ad.add q) (by rw [add_block']; exact h2)).trans h5⟩⟩
  have HBD := Lib.hid (PBelow.of_below (B := L.b.B) (G := L.b.G) hbD)
  have HS7 : Hid (∀ W, BW w0 W L { D with pt := upd D.pt j true, pW := fresh D.pW j xs } → UpT L.T w W → (World.cell? W ⟨x, 0, none⟩ = some (.pointer (some ⟨L.P, 0, none⟩)) ∧ World.cell? W ⟨L.P, 1, none⟩ = some (.pointer (some ⟨L.mb, 0, none⟩)) ∧ World.cell? W ⟨L.mb, 0, none⟩ = some (.pointer (some ⟨L.S, 0, none⟩)) ∧ World.cell? W ⟨L.S, 1, none⟩ = some (.pointer (some ⟨L.b.P, 0, none⟩)) ∧ World.cell? W ⟨y, 0, none⟩ = some (.slice a m c2))) := Lib.hid (fun W hW hu => ⟨(World.cell?_of_block (a := ⟨x, 0, none⟩) (hu.2 x hxy.1 hxy.2.1)).trans cx, hW.kk.f1, hW.mm.m0, hW.mm.sv.st.s1, (World.cell?_of_block (a := ⟨y, 0, none⟩) (hu.2 y hxy.2.2.1 hxy.2.2.2)).trans cy⟩)
  have hS0 : (World.cell? wD ⟨x, 0, none⟩ = some (.pointer (some ⟨L.P, 0, none⟩)) ∧ World.cell? wD ⟨L.P, 1, none⟩ = some (.pointer (some ⟨L.mb, 0, none⟩)) ∧ World.cell? wD ⟨L.mb, 0, none⟩ = some (.pointer (some ⟨L.S, 0, none⟩)) ∧ World.cell? wD ⟨L.S, 1, none⟩ = some (.pointer (some ⟨L.b.P, 0, none⟩)) ∧ World.cell? wD ⟨y, 0, none⟩ = some (.slice a m c2)) := ⟨(hbD.cell (p := ⟨x, 0, none⟩) hxy.2.1).trans cx, HD.out.kk.f1, HD.out.mm.m0, HD.out.mm.sv.st.s1, (hbD.cell (p := ⟨y, 0, none⟩) hxy.2.2.2).trans cy⟩
  have HLT := Lib.hid h.lowT
  clear h hs cx cy hbD
  go_enter Tryz.func60, Tryz.ntmps60
  go_upto_region 1 with fail
  refine wp_region_noPanic ?_
  refine wp_region_held_drew (S := fun w' => (World.cell? w' ⟨x, 0, none⟩ = some (.pointer (some ⟨L.P, 0, none⟩)) ∧ World.cell? w' ⟨L.P, 1, none⟩ = some (.pointer (some ⟨L.mb, 0, none⟩)) ∧ World.cell? w' ⟨L.mb, 0, none⟩ = some (.pointer (some ⟨L.S, 0, none⟩)) ∧ World.cell? w' ⟨L.S, 1, none⟩ = some (.pointer (some ⟨L.b.P, 0, none⟩)) ∧ World.cell? w' ⟨y, 0, none⟩ = some (.slice a m c2))) (by kernel_rfl) (by rw [← hwD]; exact hS0) (fun hHeld => ?_)
  rw [← hwD] at hHeld ⊢
  clear hwD hS0
  refine wpAnyH_take (i := 0) (v := ?_) (by rfl) (by kernel_rfl) (by kernel_rfl) (by kernel_rfl) (fun _ _ _ h => h) (Or.inl ⟨by kernel_rfl, ?_⟩) (by assumption) ?_; rotate_left 1; (focus (intro w hSw; (try dsimp only at hSw); simp only [List.getElem_toArray, List.getElem_cons_succ, List.getElem_cons_zero]; all_goals go_simp; all_goals (try with_reducible rfl))); (try simp only [Act.put, List.getElem_toArray, List.getElem_cons_succ, List.getElem_cons_zero, List.setIfInBounds_toArray, List.set_cons_zero, List.set_cons_succ])
  refine wpAnyH_take (i := 1) (v := ?_) (by rfl) (by kernel_rfl) (by kernel_rfl) (by kernel_rfl) (fun _ _ _ h => h) (Or.inl ⟨by kernel_rfl, ?_⟩) (by assumption) ?_; rotate_left 1; (focus (intro w hSw; (try dsimp only at hSw); simp only [List.getElem_toArray, List.getElem_cons_succ, List.getElem_cons_zero]; all_goals go_simp; all_goals (try with_reducible rfl))); (try simp only [Act.put, List.getElem_toArray, List.getElem_cons_succ, List.getElem_cons_zero, List.setIfInBounds_toArray, List.set_cons_zero, List.set_cons_succ])
  refine wpAnyH_take (i := 2) (v := ?_) (by rfl) (by kernel_rfl) (by kernel_rfl) (by kernel_rfl) (fun _ _ _ h => h) (Or.inl ⟨by kernel_rfl, ?_⟩) (by assumption) ?_; rotate_left 1; (focus (intro w hSw; (try dsimp only at hSw); simp only [List.getElem_toArray, List.getElem_cons_succ, List.getElem_cons_zero]; all_goals go_simp; all_goals (try with_reducible rfl))); (try simp only [Act.put, List.getElem_toArray, List.getElem_cons_succ, List.getElem_cons_zero, List.setIfInBounds_toArray, List.set_cons_zero, List.set_cons_succ])
  refine wpAnyH_take (i := 3) (v := ?_) (by rfl) (by kernel_rfl) (by kernel_rfl) (by kernel_rfl) (fun _ _ _ h => h) (Or.inl ⟨by kernel_rfl, ?_⟩) (by assumption) ?_; rotate_left 1; (focus (intro w hSw; (try dsimp only at hSw); simp only [List.getElem_toArray, List.getElem_cons_succ, List.getElem_cons_zero]; all_goals go_simp; all_goals (try with_reducible rfl))); (try simp only [Act.put, List.getElem_toArray, List.getElem_cons_succ, List.getElem_cons_zero, List.setIfInBounds_toArray, List.set_cons_zero, List.set_cons_succ])
  refine wpAnyH_take (i := 4) (v := ?_) (by rfl) (by kernel_rfl) (by kernel_rfl) (by kernel_rfl) (fun _ _ _ h => h) (Or.inl ⟨by kernel_rfl, ?_⟩) (by assumption) ?_; rotate_left 1; (focus (intro w hSw; (try dsimp only at hSw); simp only [List.getElem_toArray, List.getElem_cons_succ, List.getElem_cons_zero]; all_goals go_simp; all_goals (try with_reducible rfl))); (try simp only [Act.put, List.getElem_toArray, List.getElem_cons_succ, List.getElem_cons_zero, List.setIfInBounds_toArray, List.set_cons_zero, List.set_cons_succ])
  refine wpAnyH_take (i := 5) (v := ?_) (by rfl) (by kernel_rfl) (by kernel_rfl) (by kernel_rfl) (fun _ _ _ h => h) (Or.inl ⟨by kernel_rfl, ?_⟩) (by assumption) ?_; rotate_left 1; (focus (intro w hSw; (try dsimp only at hSw); simp only [List.getElem_toArray, List.getElem_cons_succ, List.getElem_cons_zero]; all_goals go_simp; all_goals (try with_reducible rfl))); (try simp only [Act.put, List.getElem_toArray, List.getElem_cons_succ, List.getElem_cons_zero, List.setIfInBounds_toArray, List.set_cons_zero, List.set_cons_succ])
  refine wpAnyH_take (i := 6) (v := ?_) (by rfl) (by kernel_rfl) (by kernel_rfl) (by kernel_rfl) (fun _ _ _ h => h) (Or.inl ⟨by kernel_rfl, ?_⟩) (by assumption) ?_; rotate_left 1; (focus (intro w hSw; (try dsimp only at hSw); simp only [List.getElem_toArray, List.getElem_cons_succ, List.getElem_cons_zero]; all_goals go_simp; all_goals (try with_reducible rfl))); (try simp only [Act.put, List.getElem_toArray, List.getElem_cons_succ, List.getElem_cons_zero, List.setIfInBounds_toArray, List.set_cons_zero, List.set_cons_succ])
  refine wpAnyH_take (i := 7) (v := ?_) (by rfl) (by kernel_rfl) (by kernel_rfl) (by kernel_rfl) (fun _ _ _ h => h) (Or.inl ⟨by kernel_rfl, ?_⟩) (by assumption) ?_; rotate_left 1; (focus (intro w hSw; (try dsimp only at hSw); simp only [List.getElem_toArray, List.getElem_cons_succ, List.getElem_cons_zero]; all_goals go_simp; all_goals (try with_reducible rfl))); (try simp only [Act.put, List.getElem_toArray, List.getElem_cons_succ, List.getElem_cons_zero, List.setIfInBounds_toArray, List.set_cons_zero, List.set_cons_succ])
  refine wpAnyH_take (i := 8) (v := ?_) (by rfl) (by kernel_rfl) (by kernel_rfl) (by kernel_rfl) (fun _ _ _ h => h) (Or.inl ⟨by kernel_rfl, ?_⟩) (by assumption) ?_; rotate_left 1; (focus (intro w hSw; (try dsimp only at hSw); simp only [List.getElem_toArray, List.getElem_cons_succ, List.getElem_cons_zero]; all_goals go_simp; all_goals (try with_reducible rfl))); (try simp only [Act.put, List.getElem_toArray, List.getElem_cons_succ, List.getElem_cons_zero, List.setIfInBounds_toArray, List.set_cons_zero, List.set_cons_succ])
  refine wpAnyH_take (i := 9) (v := ?_) (by rfl) (by kernel_rfl) (by kernel_rfl) (by kernel_rfl) (fun _ _ _ h => h) (Or.inl ⟨by kernel_rfl, ?_⟩) (by assumption) ?_; rotate_left 1; (focus (intro w hSw; (try dsimp only at hSw); simp only [List.getElem_toArray, List.getElem_cons_succ, List.getElem_cons_zero]; all_goals go_simp; all_goals (try with_reducible rfl))); (try simp only [Act.put, List.getElem_toArray, List.getElem_cons_succ, List.getElem_cons_zero, List.setIfInBounds_toArray, List.set_cons_zero, List.set_cons_succ])
  refine wpAnyH_take (i := 10) (v := ?_) (by rfl) (by kernel_rfl) (by kernel_rfl) (by kernel_rfl) (fun _ _ _ h => h) (Or.inl ⟨by kernel_rfl, ?_⟩) (by assumption) ?_; rotate_left 1; (focus (intro w hSw; (try dsimp only at hSw); simp only [List.getElem_toArray, List.getElem_cons_succ, List.getElem_cons_zero]; all_goals go_simp; all_goals (try with_reducible rfl))); (try simp only [Act.put, List.getElem_toArray, List.getElem_cons_succ, List.getElem_cons_zero, List.setIfInBounds_toArray, List.set_cons_zero, List.set_cons_succ])
  refine wpAnyH_ready (rs := [11]) (by kernel_rfl) (by simp) ?_; refine AllReadyH.cons (by rfl) (fun K hK => ?_) AllReadyH.nil; rw [if_pos (by kernel_rfl)]; simp only [List.getElem_toArray, List.getElem_cons_succ, List.getElem_cons_zero]
  go_wp2_with (first
    | (go_at_call 61; (with_reducible refine (pmake_ok a m c2 xs hm hx j hj hyes hno v hv _ HD.out.mm.sv.st.pg HSr.out).mono ?_); rintro e w2 ⟨rfl, hP2, hb2⟩; have HB2 := Lib.hid (HBD.out.trans hb2); have HW2 := Lib.hid (HD.out.page hP2 hb2); clear hP2 hb2))
  refine hK.out _ _ (HS7.out _ HW2.out (UpT.pb HB2.out (by have := HLT.out; omega) (by have := HLT.out; omega))) (fun hHeld => ?_)
  clear hK K
  (try simp only [Act.put, List.getElem_toArray, List.getElem_cons_succ, List.getElem_cons_zero, List.setIfInBounds_toArray, List.set_cons_zero, List.set_cons_succ])
  refine wpAnyH_take (i := 12) (v := ?_) (by rfl) (by kernel_rfl) (by kernel_rfl) (by kernel_rfl) (fun _ _ _ h => h) (Or.inl ⟨by kernel_rfl, ?_⟩) (by assumption) ?_; rotate_left 1; (focus (intro w hSw; (try dsimp only at hSw); simp only [List.getElem_toArray, List.getElem_cons_succ, List.getElem_cons_zero]; all_goals go_simp; all_goals (try with_reducible rfl))); (try simp only [Act.put, List.getElem_toArray, List.getElem_cons_succ, List.getElem_cons_zero, List.setIfInBounds_toArray, List.set_cons_zero, List.set_cons_succ])
  refine wpAnyH_take (i := 13) (v := ?_) (by rfl) (by kernel_rfl) (by kernel_rfl) (by kernel_rfl) (fun _ _ _ h => h) (Or.inl ⟨by kernel_rfl, ?_⟩) (by assumption) ?_; rotate_left 1; (focus (intro w hSw; (try dsimp only at hSw); simp only [List.getElem_toArray, List.getElem_cons_succ, List.getElem_cons_zero]; all_goals go_simp; all_goals (try with_reducible rfl))); (try simp only [Act.put, List.getElem_toArray, List.getElem_cons_succ, List.getElem_cons_zero, List.setIfInBounds_toArray, List.set_cons_zero, List.set_cons_succ])
  refine wpAnyH_take (i := 14) (v := ?_) (by rfl) (by kernel_rfl) (by kernel_rfl) (by kernel_rfl) (fun _ _ _ h => h) (Or.inl ⟨by kernel_rfl, ?_⟩) (by assumption) ?_; rotate_left 1; (focus (intro w hSw; (try dsimp only at hSw); simp only [List.getElem_toArray, List.getElem_cons_succ, List.getElem_cons_zero]; all_goals go_simp; all_goals (try with_reducible rfl))); (try simp only [Act.put, List.getElem_toArray, List.getElem_cons_succ, List.getElem_cons_zero, List.setIfInBounds_toArray, List.set_cons_zero, List.set_cons_succ])
  refine wpAnyH_take (i := 15) (v := ?_) (by rfl) (by kernel_rfl) (by kernel_rfl) (by kernel_rfl) (fun _ _ _ h => h) (Or.inl ⟨by kernel_rfl, ?_⟩) (by assumption) ?_; rotate_left 1; (focus (intro w hSw; (try dsimp only at hSw); simp only [List.getElem_toArray, List.getElem_cons_succ, List.getElem_cons_zero]; all_goals go_simp; all_goals (try with_reducible rfl))); (try simp only [Act.put, List.getElem_toArray, List.getElem_cons_succ, List.getElem_cons_zero, List.setIfInBounds_toArray, List.set_cons_zero, List.set_cons_succ])
  refine wpAnyH_take (i := 16) (v := ?_) (by rfl) (by kernel_rfl) (by kernel_rfl) (by kernel_rfl) (fun _ _ _ h => h) (Or.inl ⟨by kernel_rfl, ?_⟩) (by assumption) ?_; rotate_left 1; (focus (intro w hSw; (try dsimp only at hSw); simp only [List.getElem_toArray, List.getElem_cons_succ, List.getElem_cons_zero]; all_goals go_simp; all_goals (try with_reducible rfl))); (try simp only [Act.put, List.getElem_toArray, List.getElem_cons_succ, List.getElem_cons_zero, List.setIfInBounds_toArray, List.set_cons_zero, List.set_cons_succ])
  refine wpAnyH_take (i := 17) (v := ?_) (by rfl) (by kernel_rfl) (by kernel_rfl) (by kernel_rfl) (fun _ _ _ h => h) (Or.inl ⟨by kernel_rfl, ?_⟩) (by assumption) ?_; rotate_left 1; (focus (intro w hSw; (try dsimp only at hSw); simp only [List.getElem_toArray, List.getElem_cons_succ, List.getElem_cons_zero]; all_goals go_simp; all_goals (try with_reducible rfl))); (try simp only [Act.put, List.getElem_toArray, List.getElem_cons_succ, List.getElem_cons_zero, List.setIfInBounds_toArray, List.set_cons_zero, List.set_cons_succ])
  refine wpAnyH_done (by kernel_rfl) ?_ _
  refine NoPanic.normal ?_
  go_wp2_with fail
  go_ret3
  exact ⟨rfl, HW2.out, HB2.out⟩
end Go.Proofs.YtncopdhhchmpeaaGreatDoor
namespace Go.Proofs.YtncopdhhchmpeaaGreatDoor
open Go.ChangeShapes Go.WideShapes Go.ChangeAt Go.RowKit
set_option linter.unusedVariables false
set_option linter.unusedSimpArgs false
/-- The banks after one more object of bank q. -/
def boughtP (D : BSt) (q j : Nat) (v : Int) (pW : Nat → Nat → Int) : BSt := { D with pt := upd D.pt j true, pW := pW, us := addL D.us (chL D.pr q) 1, o2 := upd D.o2 j q, v2 := upd D.v2 j v }
theorem chL_in {nb n : Nat} {pr : Nat → Int} (hp : PrOk nb pr) (hn : nb ≤ n) (hb : nb ≤ 256) (q : Nat) (hq : q < nb) : (∀ z, z ∈ chL pr q → 0 ≤ z ∧ z < n) ∧ (chL pr q).length ≤ nb ∧ (chL pr q).Nodup := by
  have h := chL_bound hp hb (q + 1) q (by omega) (by omega)
  exact ⟨fun z hz => by have := h.2 z hz; omega, by omega, chL_nodup hp hb (q + 1) q (by omega) (by omega)⟩
end Go.Proofs.YtncopdhhchmpeaaGreatDoor
namespace Go.Proofs.YtncopdhhchmpeaaGreatDoor
open Go.ChangeShapes Go.WideShapes Go.ChangeAt Go.RowKit
set_option linter.unusedVariables false
set_option linter.unusedSimpArgs false
/-- Words that are handed in lie apart. -/
def SrcW (L : BLoc) (w : World) (a : Option Addr) (xs : List Int) : Prop := ∀ W, Below w.heap.size w W → ∀ B G, (B < L.T ∨ w.heap.size ≤ B) → (G < L.T ∨ w.heap.size ≤ G) → SrcU W a xs B G
theorem SrcW.run {L : BLoc} {w : World} {a : Option Addr} {xs : List Int} (h : SrcW L w a xs) (W : World) (hb : Below w.heap.size w W) (B G : Nat) (hB : B < L.T ∨ w.heap.size ≤ B) (hG : G < L.T ∨ w.heap.size ≤ G) : SrcU W a xs B G := h W hb B G hB hG
theorem srcw_none (L : BLoc) (w : World) : SrcW L w none [] := fun _ _ _ _ _ _ => ⟨fun j hj => by simp at hj⟩
end Go.Proofs.YtncopdhhchmpeaaGreatDoor
namespace Go.Proofs.YtncopdhhchmpeaaGreatDoor
open Go.ChangeShapes Go.WideShapes Go.ChangeAt Go.RowKit
set_option linter.unusedVariables false
set_option linter.unusedSimpArgs false
/-- One more bank, within y. -/
def openedB (D : BSt) (y lim : Int) : BSt := { D with nb := D.nb + 1, pr := upd D.pr D.nb y, us := upd D.us D.nb 0, lm := upd D.lm D.nb lim }
theorem BW.opened {w0 w w' : World} {L : BLoc} {D : BSt} (h : BW w0 w L D) (y lim : Int) (hy0 : -1 ≤ y) (hy1 : y < D.nb) (hn : D.nb < L.n) (hk : BkAt w' L.bB L.P L.p L.B L.A L.G1 L.G2 L.G3 L.n L.c L.mb L.dP (thN (D.nb + 1)) (fun _ => 0) (upd D.pr D.nb y) (upd D.us D.nb 0) (upd D.lm D.nb lim) D.o1 D.v1 D.o2 D.v2 D.o3 D.v3) (hb : PBelow w w' L.B L.A) : BW w0 w' L (openedB D y lim) ∧ UpT L.T w w' :=
  ⟨BW.bank h (D' := openedB D y lim) hk (hb.below h.kk.ar.lt.1 h.kk.ac.lt.1 h.bl) rfl (prok_put h.pk y hy0 hy1) hn, UpT.pb hb (by have := h.tt; omega) (by have := h.tt; omega)⟩
theorem bwsub_ok {w0 : World} {L : BLoc} {D : BSt} (x : Int) (q : Nat) (hx : Hid (x = (q : Int))) (lim : Int) (hl0 : 0 ≤ lim) (hl1 : lim ≤ 512) (hq : q < D.nb) (k : Int) (hk : Hid ((D.nb : Int) = k)) (hn : D.nb < L.n) (hch : Hid ((chL D.pr q).length < 8)) (w : World) (h : BW w0 w L D) :
    Calls Tryz.prog 20 #[.pointer (some ⟨L.P, 0, none⟩), .int .i64 x, .int .i64 lim] w fun e w' => e = .returned (.tuple #[.int .i64 k, .int .i64 0, .nilIface]) ∧ BW w0 w' L (openedB D q lim) ∧ UpT L.T w w' := by
  rw [← hk.out, hx.out]
  exact bsub_of q lim hq h.nn _ _ _ _ rfl w h.kk ((bopen_ok (q : Int) lim (by omega) (by omega) hl0 hl1 hn (Lib.hid h.pk) hch w h.kk).mono fun e w' ⟨h1, h2, h3⟩ => ⟨h1, h.opened (q : Int) lim (by omega) (by omega) hn h2 h3⟩)
/-- Nothing yet. -/
def st0 : BSt := ⟨fun _ => false, fun _ => 0, fun _ b => zc b, fun _ => false, fun _ => 0, fun _ _ => 0, fun _ => false, fun _ => 0, fun _ b => zd b, 0, fun _ => 0, fun _ => 0, fun _ => 0, fun _ => -1, fun _ => 0, fun _ => -1, fun _ => 0, fun _ => -1, fun _ => 0⟩
theorem chL_root {nb : Nat} {pr : Nat → Int} (hp : PrOk nb pr) (hb : nb ≤ 256) (q : Nat) (hq : q < nb) (h : pr q = -1) : chL pr (q : Int) = [(q : Int)] := by
  rw [chL_cons hp q hq hb, h, chL_neg _ _ (by omega)]
end Go.Proofs.YtncopdhhchmpeaaGreatDoor
namespace Go.Proofs.YtncopdhhchmpeaaGreatDoor
open Go.ChangeShapes Go.WideShapes Go.ChangeAt Go.RowKit
set_option linter.unusedVariables false
set_option linter.unusedSimpArgs false
/-- Each within the one ahead of it. -/
def pD (k : Nat) (i : Nat) : Int := if i < k then (i : Int) - 1 else 0
end Go.Proofs.YtncopdhhchmpeaaGreatDoor
namespace Go.Proofs.YtncopdhhchmpeaaGreatDoor
open Go.ChangeShapes Go.WideShapes Go.ChangeAt Go.RowKit Go.Maps
set_option linter.unusedVariables false
set_option linter.unusedSimpArgs false
theorem dlawI : Keyed Tryz.prog 3 := int_keyed Tryz.underlying3
theorem dzeroU (w : World) : (zeroValue 131).run Tryz.prog w = .ok (.agg #[]) w := by kernel_rfl
theorem dfit {x : Int} (h0 : 0 ≤ x) (h1 : x ≤ 1000) : (Lit.int .i64 x).wf = true := WalkArith.wf_i64 ⟨by omega, by omega⟩
theorem zqhas_n {q o : Nat} (x : Int) (h0 : 0 ≤ x) (h1 : x ≤ 1000) (w : World) (hc : w.cell? ⟨q, o + 1, none⟩ = some (.map none)) :
    Calls Tryz.prog 43 #[.pointer (some ⟨q, o, none⟩), .int .i64 x] w fun e w' => e = .returned (.bool false) ∧ Below w.heap.size w w' := by
  have hl := fun W : World => Maps.look_nil (w := W) true dlawI Tryz.underlying133 (dzeroU W) (keyOf_int_mk Tryz.underlying3 (dfit h0 h1))
  simp only [if_true] at hl
  go_enter Tryz.func43, Tryz.ntmps43
  go_wp2
  go_ret
  exact ⟨rfl, (Below.refl _ _).alloc (Nat.le_refl _) _⟩
theorem zqdrop_n {q o : Nat} (x : Int) (h0 : 0 ≤ x) (h1 : x ≤ 1000) (w : World) (hc : w.cell? ⟨q, o + 1, none⟩ = some (.map none)) :
    Calls Tryz.prog 171 #[.pointer (some ⟨q, o, none⟩), .int .i64 x] w fun e w' => e = .returned (.bool false) ∧ Below w.heap.size w w' := by
  have HC := Lib.hid (zqhas_n x h0 h1 w hc)
  clear hc
  go_enter Tryz.func171, Tryz.ntmps171
  go_wp2_with (first | (go_at_call 43; (with_reducible refine HC.out.mono ?_); rintro e w1 ⟨rfl, hb⟩; have HB := Lib.hid hb; clear hb))
  go_ret
  exact ⟨rfl, HB.out⟩
set_option maxRecDepth 100000 in
theorem dunstall_no {base P p B G Q n c : Nat} {th : Nat → Bool} {vr_ : Nat → Int} {W : Nat → Nat → Value} (x : Int) (h0 : 0 ≤ x) (h1 : x ≤ 1000) (w : World) (h : DsAt w base P p B G Q n c th vr_ W) :
    Calls Tryz.prog 132 #[.pointer (some ⟨P, 0, none⟩), .int .i64 x] w fun e w' => e = .returned (.tuple #[]) ∧ Below w.heap.size w w' := by
  have H := Lib.hid h
  have f2 := h.f2
  have hn := h.pl.ar.le
  clear h
  go_enter Tryz.func132, Tryz.ntmps132
  go_wp2_with fail
  clear f2
  go_loopw [10] (fun i wr => ∃ k : Nat, k ≤ n ∧ i = .int .i64 k ∧ Below w.heap.size w wr) (fun i _ => n - (intOf i).toNat)
  case atStart => exact ⟨0, by omega, rfl, Below.refl _ _⟩
  case round =>
    obtain ⟨k, hk, rfl, hB⟩ := hrel
    have HB := Lib.hid hB
    by_cases hlt : k < n
    · have HR := Lib.hid (H.out.below hB)
      have f2 := HR.out.f2
      have k0 : (0 : Int) ≤ k := by omega
      have k1 : (k : Int) < n := by omega
      clear hB
      go_wp2_with (first | (go_at_call 171; (with_reducible refine (zqdrop_n x h0 h1 _ (HR.out.queue k hlt).2).mono ?_); rintro e w1 ⟨rfl, hb⟩; have HB2 := Lib.hid (HB.out.trans (hb.mono HB.out.size)); clear hb f2))
      go_roundw
      case rel => exact ⟨k + 1, by omega, by go_num, HB2.out⟩
      case measure => simp [intOf]; omega
    · obtain rfl : k = n := by omega
      have hdd : decide (k < k) = false := by simp
      clear hB
      go_wp2_with fail
      go_end0
      exact ⟨rfl, HB.out⟩
set_option maxRecDepth 100000 in
theorem zclone_n (w : World) : Calls Tryz.prog 212 #[.slice none 0 0] w fun e w' => e = .returned (.slice none 0 0) ∧ Below w.heap.size w w' := by
  have hq : ∀ W : World, (binOp .eql 57 (.slice none 0 0) (.slice none 0 0)).run Tryz.prog W = .ok (.bool true) W := fun W => by kernel_rfl
  go_enter Tryz.func212, Tryz.ntmps212
  go_wp2_with fail
  go_ret
  exact ⟨rfl, Below.refl _ _⟩
theorem zall_n {q o : Nat} (w : World) (hc : w.cell? ⟨q, o, none⟩ = some (.slice none 0 0)) : Calls Tryz.prog 196 #[.pointer (some ⟨q, o, none⟩)] w fun e w' => e = .returned (.slice none 0 0) ∧ Below w.heap.size w w' := by
  go_enter Tryz.func196, Tryz.ntmps196
  go_wp2_with (first | (go_at_call 212; (with_reducible refine (zclone_n _).mono ?_); rintro e w1 ⟨rfl, hb⟩; have HB := Lib.hid hb; clear hb))
  go_ret
  exact ⟨rfl, HB.out⟩
theorem dcallers_no {base P p B G Q n c : Nat} {th : Nat → Bool} {vr_ : Nat → Int} {W : Nat → Nat → Value} (k : Nat) (hk : k < n) (ht : Hid (th k = true)) (w : World) (h : DsAt w base P p B G Q n c th vr_ W) :
    Calls Tryz.prog 170 #[.pointer (some ⟨P, 0, none⟩), .int .i64 (k : Int)] w fun e w' => e = .returned (.slice none 0 0) ∧ Below w.heap.size w w' := by
  have H := Lib.hid h
  have f0 := h.pl.f0
  have f2 := h.f2
  have k0 : (0 : Int) ≤ k := by omega
  have k1 : (k : Int) < n := by omega
  clear h
  go_enter Tryz.func170, Tryz.ntmps170
  go_wp2_with (first
    | (go_at_call 63; (with_reducible refine (athere_in k hk true ht _ H.out.pl.ar).mono ?_); rintro e w1 ⟨rfl, rfl⟩)
    | (go_at_call 196; (with_reducible refine (zall_n _ (H.out.queue k hk).1).mono ?_); rintro e w1 ⟨rfl, hb⟩; have HB := Lib.hid hb; clear hb))
  go_ret
  exact ⟨rfl, HB.out⟩
theorem dwake_no {base P p B G Q n c : Nat} {th : Nat → Bool} {vr_ : Nat → Int} {W : Nat → Nat → Value} (k : Nat) (hk : k < n) (ht : Hid (th k = true)) (w : World) (h : DsAt w base P p B G Q n c th vr_ W) :
    Calls Tryz.prog 131 #[.pointer (some ⟨P, 0, none⟩), .int .i64 (k : Int)] w fun e w' => e = .returned (.slice none 0 0) ∧ Below w.heap.size w w' := by
  have HC := Lib.hid (dcallers_no k hk ht w h)
  clear h
  go_enter Tryz.func131, Tryz.ntmps131
  go_wp2_with (first
    | (go_at_call 170; (with_reducible refine HC.out.mono ?_); rintro e w1 ⟨rfl, hb⟩; have HB := Lib.hid hb; clear hb))
  go_ret
  exact ⟨rfl, HB.out⟩
set_option maxRecDepth 100000 in
theorem dend_ok {base P p B G Q n c : Nat} {th : Nat → Bool} {vr_ : Nat → Int} {W : Nat → Nat → Value} (k : Nat) (hk : k < n) (ht : Hid (th k = true)) (v : Int) (hv : Hid (vr_ k = v)) (v0 : -1000000000 ≤ v) (v1 : v ≤ 1000000000) (w : World) (h : DsAt w base P p B G Q n c th vr_ W) :
    Calls Tryz.prog 110 #[.pointer (some ⟨P, 0, none⟩), .int .i64 (k : Int)] w fun e w' => e = .returned .nilIface ∧ DsAt w' base P p B G Q n c (upd th k false) (upd vr_ k (v + 1)) W ∧ PBelow w w' B G := by
  have H := Lib.hid h
  have f0 := h.pl.f0
  have hn := h.pl.ar.le
  clear h
  go_enter Tryz.func110, Tryz.ntmps110
  go_wp2_with (first
    | (go_at_call 63; (with_reducible refine (athere_in k hk true ht _ H.out.pl.ar).mono ?_); rintro e w1 ⟨rfl, rfl⟩)
    | (go_at_call 131; (with_reducible refine (dwake_no k hk ht _ H.out).mono ?_); rintro e w1 ⟨rfl, hb⟩; have HB1 := Lib.hid hb; have H1 := Lib.hid (H.out.below hb); clear hb f0)
    | (go_at_call 132; (with_reducible refine (dunstall_no (k : Int) (by omega) (by omega) _ H1.out).mono ?_); rintro e w2 ⟨rfl, hb⟩; have HB2 := Lib.hid (HB1.out.trans (hb.mono HB1.out.size)); have H2 := Lib.hid (H1.out.below hb); have f9 := H2.out.pl.f0; clear hb)
    | (go_at_call 72; (with_reducible refine (agive_ok _ H2.out.pl.ar k hk ht v hv v0 v1).mono ?_); rintro e w3 ⟨rfl, hA, hg⟩; have H3 := Lib.hid (H2.out.turn hA hg); have HB3 := Lib.hid ((PBelow.of_below (B := B) (G := G) HB2.out).trans (PBelow.of hg (.inl rfl))); clear hA hg f9))
  go_ret
  exact ⟨rfl, H3.out, HB3.out⟩
theorem infoDomS : (Tryz.prog.info? 171).map (·.size) = some 107 := by kernel_rfl
set_option maxRecDepth 100000 in
set_option maxHeartbeats 1000000 in
theorem dmake_ok {base P p B G Q n c : Nat} {th : Nat → Bool} {vr_ : Nat → Int} {W : Nat → Nat → Value} (j : Nat) (hj : j < n) (hyes : Hid (freeB th vr_ j = true)) (hno : Hid (∀ i, i < j → freeB th vr_ i = false)) (v : Int) (hv : Hid (vr_ j = v)) (w : World) (h : DsAt w base P p B G Q n c th vr_ W) :
    Calls Tryz.prog 62 #[.pointer (some ⟨P, 0, none⟩)] w fun e w' => e = .returned (.tuple #[.int .i64 j, .int .i64 v, .nilIface]) ∧ DsAt w' base P p B G Q n c (upd th j true) vr_ (updS W j 0 zsD1) ∧ PBelow w w' B G := by
  have H := Lib.hid h
  have f0 := h.pl.f0
  have hn := h.pl.ar.le
  have k0 : (0 : Int) ≤ j := by omega
  have k1 : (j : Int) < n := by omega
  clear h
  go_enter Tryz.func62, Tryz.ntmps62
  go_upto_region 4 with (first
    | (go_at_call 65; (with_reducible refine (atake_ok _ H.out.pl.ar j hj hyes hno v hv).mono ?_); rintro e w1 ⟨rfl, hA, hg⟩; have H1 := Lib.hid (H.out.turn hA hg); have HB1 := Lib.hid (PBelow.of (G := G) hg (.inl rfl)); have f1 := H1.out.pl.f1; have HTh : Hid (w1.there G (j * 107) 107) := Lib.hid (H1.out.pl.there j 0 107 hj (by decide)); clear hA hg f0))
  go_wp2_with (refine wpList_store_mid (by rfl) _ _ _ (by rfl) G (j * 107) zsD1.toArray (by kernel_rfl) (by rfl) HTh.out (by rw [List.size_toArray, zsD1_len]; exact infoDomS) (all_oneCell_toArray zsD1_one) ?_; obtain ⟨w2, hw2⟩ : ∃ w2, w2 = w1.setCells G (j * 107) zsD1.toArray.toList := ⟨_, rfl⟩; rw [← hw2]; have H2 := Lib.hid (H1.out.cells j 0 hj zsD1 (by rw [zsD1_len]; decide)); rw [Nat.add_zero, show zsD1 = zsD1.toArray.toList from rfl, ← hw2] at H2; clear hw2)
  go_ret3
  exact ⟨rfl, H2.out.1, HB1.out.trans (PBelow.of H2.out.2 (.inr rfl))⟩
end Go.Proofs.YtncopdhhchmpeaaGreatDoor
namespace Go.Proofs.YtncopdhhchmpeaaGreatDoor
open Go.ChangeShapes Go.WideShapes Go.ChangeAt Go.RowKit
set_option linter.unusedVariables false
set_option linter.unusedSimpArgs false
/-- A domain's cells in a row. -/
def rowL (f : Nat → Value) : List Value := (List.range 107).map f
section
variable {P : Program}
end
/-- Keys among a domain's cells. -/
def KeysIn (f : Nat → Value) (kk : Nat → Nat → Int) : Prop := ∀ q r, q < 19 → r < 5 → f (11 + (q * 5 + r)) = kval r (kk q r)
end Go.Proofs.YtncopdhhchmpeaaGreatDoor
namespace Go.Proofs.YtncopdhhchmpeaaGreatDoor
open Go.ChangeShapes Go.WideShapes Go.ChangeAt Go.RowKit
set_option linter.unusedVariables false
set_option linter.unusedSimpArgs false
set_option maxHeartbeats 1000000 in
theorem dkeyof_in {base P p B G Q n c : Nat} {th : Nat → Bool} {vr_ : Nat → Int} {W : Nat → Nat → Value} (c0 x d : Int) (k : Nat) (hx : Hid (x = (k : Int))) (hk : k < n) (ht : Hid (th k = true)) (hd : d ≤ 536870911) (v : Int) (hv : Hid (vr_ k = v)) (w : World) (h : DsAt w base P p B G Q n c th vr_ W) :
    Calls Tryz.prog 93 #[.pointer (some ⟨P, 0, none⟩), .int .i64 c0, .int .i64 x, .int .u32 d] w fun e w' => e = .returned (Value.agg #[.int .i64 c0, .int .i64 x, .int .i64 v, .int .i64 0, .int .u32 d]) ∧ Below w.heap.size w w' := by
  have H := Lib.hid (fun o => h.below ((Below.refl _ _).alloc (Nat.le_refl _) _ : Below w.heap.size w (w.alloc o)))
  have f0 := fun o => (h.below ((Below.refl _ _).alloc (Nat.le_refl _) _ : Below w.heap.size w (w.alloc o))).pl.f0
  have d0 : decide (536870911 < d) = false := decide_eq_false (by omega)
  have hkx := hx.out
  subst hkx
  clear h
  go_enter Tryz.func93, Tryz.ntmps93
  go_wp2_with (first
    | (go_at_call 63; (with_reducible refine (athere_in k hk true ht _ (H.out _).pl.ar).mono ?_); rintro e w1 ⟨rfl, rfl⟩)
    | (go_at_call 58; (with_reducible refine (aver_in k hk v hv _ (H.out _).pl.ar).mono ?_); rintro e w1 ⟨rfl, rfl⟩))
  refine bodyPost_ret (v := (Value.agg #[.int .i64 c0, .int .i64 (k : Int), .int .i64 v, .int .i64 0, .int .u32 d])) (by simp [results, Tryz.results93, go_sem]) rfl ⟨rfl, ?_⟩
  exact (Below.refl _ _).alloc (Nat.le_refl _) _
theorem athere_dead {base p B n c : Nat} {th : Nat → Bool} {vr : Nat → Int} (k : Nat) (x : Int) (hx : Hid (x = (k : Int))) (ht : Hid (th k = false)) (w : World) (hA : ArAt w base p B n c th vr) : Calls Tryz.prog 63 #[.pointer (some ⟨p, 0, none⟩), .int .i64 x] w fun e w' => e = .returned (.bool false) ∧ w = w' := by
  rw [hx.out]
  exact athere_is (k : Int) false (Lib.hid (by unfold thereB; rw [Int.toNat_natCast, ht.out]; simp)) w hA
set_option maxHeartbeats 1000000 in
theorem dkeyof_dead {base P p B G Q n c : Nat} {th : Nat → Bool} {vr_ : Nat → Int} {W : Nat → Nat → Value} (c0 x d : Int) (k : Nat) (hx : Hid (x = (k : Int))) (ht : Hid (th k = false)) (w : World) (h : DsAt w base P p B G Q n c th vr_ W) :
    Calls Tryz.prog 93 #[.pointer (some ⟨P, 0, none⟩), .int .i64 c0, .int .i64 x, .int .u32 d] w fun e w' => e = .returned (Value.agg #[.int .i64 0, .int .i64 0, .int .i64 0, .int .i64 0, .int .u32 0]) ∧ Below w.heap.size w w' := by
  have H := Lib.hid (fun o => h.below ((Below.refl _ _).alloc (Nat.le_refl _) _ : Below w.heap.size w (w.alloc o)))
  have f0 := fun o => (h.below ((Below.refl _ _).alloc (Nat.le_refl _) _ : Below w.heap.size w (w.alloc o))).pl.f0
  clear h
  go_enter Tryz.func93, Tryz.ntmps93
  go_wp2_with (first
    | (go_at_call 63; (with_reducible refine (athere_dead k x hx ht _ (H.out _).pl.ar).mono ?_); rintro e w1 ⟨rfl, rfl⟩))
  refine bodyPost_ret (v := (Value.agg #[.int .i64 0, .int .i64 0, .int .i64 0, .int .i64 0, .int .u32 0])) (by simp [results, Tryz.results93, go_sem]) rfl ⟨rfl, ?_⟩
  exact (Below.refl _ _).alloc (Nat.le_refl _) _
theorem dkey_of {P : Nat} (x : Int) (k0 k1 k2 k3 k4 : Int) (w : World) (h : ∀ W, Below w.heap.size w W → Calls Tryz.prog 93 #[.pointer (some ⟨P, 0, none⟩), .int .i64 4, .int .i64 x, .int .u32 0] W fun e w' => e = .returned (Value.agg #[.int .i64 k0, .int .i64 k1, .int .i64 k2, .int .i64 k3, .int .u32 k4]) ∧ Below W.heap.size W w') :
    Calls Tryz.prog 55 #[.pointer (some ⟨P, 0, none⟩), .int .i64 x] w fun e w' => e = .returned (Value.agg #[.int .i64 k0, .int .i64 k1, .int .i64 k2, .int .i64 k3, .int .u32 k4]) ∧ Below w.heap.size w w' := by
  have HC := Lib.hid h
  clear h
  go_enter Tryz.func55, Tryz.ntmps55
  go_upto_region 1 with fail
  generalize hA : World.alloc w _ = wA
  have HA : Hid (Below w.heap.size w wA ∧ KeyC wA w.heap.size 0 0 0 0 0) := Lib.hid (by rw [← hA]; exact ⟨(Below.refl _ _).alloc (Nat.le_refl _) _, KeyC.new w 0 0 0 0 0 _⟩)
  clear hA
  go_wp2_with (first
    | (go_at_call 93; (with_reducible refine (HC.out _ HA.out.1).mono ?_); rintro e w1 ⟨rfl, hb⟩; have HB := Lib.hid (HA.out.1.trans (hb.mono HA.out.1.size)); have HK := Lib.hid (HA.out.2.below hb); have q0 := HK.out.c0; have q1 := HK.out.c1; have q2 := HK.out.c2; have q3 := HK.out.c3; have q4 := HK.out.c4; have g0 := HK.out.fr 0; have g1 := HK.out.fr 1; have g2 := HK.out.fr 2; have g3 := HK.out.fr 3; have g4 := HK.out.fr 4; clear hb))
  have t := HK.out.set k0 k1 k2 k3 k4
  have t0 := t.c0
  have t1 := t.c1
  have t2 := t.c2
  have t3 := t.c3
  have t4 := t.c4
  refine bodyPost_ret (v := (Value.agg #[.int .i64 k0, .int .i64 k1, .int .i64 k2, .int .i64 k3, .int .u32 k4])) (by simp [results, Tryz.results55, go_sem, t0, t1, t2, t3, t4]) rfl ⟨rfl, ?_⟩
  exact ((((HB.out.setCell (Nat.le_refl _) _).setCell (Nat.le_refl _) _).setCell (Nat.le_refl _) _).setCell (Nat.le_refl _) _).setCell (Nat.le_refl _) _
end Go.Proofs.YtncopdhhchmpeaaGreatDoor
namespace Go.Proofs.YtncopdhhchmpeaaGreatDoor
open Go.ChangeShapes Go.WideShapes Go.ChangeAt Go.RowKit
set_option linter.unusedVariables false
set_option linter.unusedSimpArgs false
set_option maxHeartbeats 1000000 in
theorem spagekey_dead {S : Nat} {a b : Shp} {th : Nat → Bool} {vr_ : Nat → Int} {W : Nat → Nat → Value} {th2 : Nat → Bool} {vr2 : Nat → Int} {W2 : Nat → Nat → Int} (x : Int) (k : Nat) (hx : Hid (x = (k : Int))) (ht : Hid (th2 k = false)) (w : World) (h : (StAt w S a b th vr_ W th2 vr2 W2)) :
    Calls Tryz.prog 54 #[.pointer (some ⟨S, 0, none⟩), .int .i64 x] w fun e w' => e = .returned (Value.agg #[.int .i64 0, .int .i64 0, .int .i64 0, .int .i64 0, .int .u32 0]) ∧ Below w.heap.size w w' := by
  have H := Lib.hid (fun o => h.below ((Below.refl _ _).alloc (Nat.le_refl _) _ : Below w.heap.size w (w.alloc o)))
  have s1 : ∀ o, (w.alloc o).cell? ⟨S, 1, none⟩ = some (.pointer (some ⟨b.P, 0, none⟩)) := fun o => (H.out o).s1
  have f1 : ∀ o, (w.alloc o).cell? ⟨b.P, 0, none⟩ = some (.pointer (some ⟨b.p, 0, none⟩)) := fun o => (H.out o).pg.f0
  clear h
  go_enter Tryz.func54, Tryz.ntmps54
  go_wp2_with (first
    | (go_at_call 63; (with_reducible refine (athere_dead k x hx ht _ (H.out _).pg.ar).mono ?_); rintro e w1 ⟨rfl, rfl⟩))
  refine bodyPost_ret (v := (Value.agg #[.int .i64 0, .int .i64 0, .int .i64 0, .int .i64 0, .int .u32 0])) (by simp [results, Tryz.results54, go_sem]) rfl ⟨rfl, ?_⟩
  exact (Below.refl _ _).alloc (Nat.le_refl _) _
set_option maxHeartbeats 1000000 in
theorem snodekey_dead {S : Nat} {a b : Shp} {th : Nat → Bool} {vr_ : Nat → Int} {W : Nat → Nat → Value} {th2 : Nat → Bool} {vr2 : Nat → Int} {W2 : Nat → Nat → Int} (x y : Int) (k : Nat) (hx : Hid (x = (k : Int))) (ht : Hid (th k = false)) (w : World) (h : (StAt w S a b th vr_ W th2 vr2 W2)) :
    Calls Tryz.prog 53 #[.pointer (some ⟨S, 0, none⟩), .int .i64 x, .int .i64 y] w fun e w' => e = .returned (Value.agg #[.int .i64 0, .int .i64 0, .int .i64 0, .int .i64 0, .int .u32 0]) ∧ Below w.heap.size w w' := by
  have H := Lib.hid (fun o => h.below ((Below.refl _ _).alloc (Nat.le_refl _) _ : Below w.heap.size w (w.alloc o)))
  have s0 : ∀ o, (w.alloc o).cell? ⟨S, 0, none⟩ = some (.pointer (some ⟨a.P, 0, none⟩)) := fun o => (H.out o).s0
  have f0 : ∀ o, (w.alloc o).cell? ⟨a.P, 0, none⟩ = some (.pointer (some ⟨a.p, 0, none⟩)) := fun o => (H.out o).nd.f0
  clear h
  go_enter Tryz.func53, Tryz.ntmps53
  go_wp2_with (first
    | (go_at_call 63; (with_reducible refine (athere_dead k x hx ht _ (H.out _).nd.ar).mono ?_); rintro e w1 ⟨rfl, rfl⟩))
  refine bodyPost_ret (v := (Value.agg #[.int .i64 0, .int .i64 0, .int .i64 0, .int .i64 0, .int .u32 0])) (by simp [results, Tryz.results53, go_sem]) rfl ⟨rfl, ?_⟩
  exact (Below.refl _ _).alloc (Nat.le_refl _) _
/-- Owned's function for nodes. -/
theorem owned2_of {w0 : World} {L : BLoc} {D : BSt} (bb : Nat) (x k0 k1 k2 k3 k4 : Int) (w : World) (h : BW w0 w L D) (hb : w.cell? ⟨bb, 0, none⟩ = some (.pointer (some ⟨L.P, 0, none⟩))) (hbl : bb < w.heap.size)
    (hc : ∀ W, Below w.heap.size w W → Calls Tryz.prog 53 #[.pointer (some ⟨L.S, 0, none⟩), .int .i64 x, .int .i64 0] W fun e w' => e = .returned (Value.agg #[.int .i64 k0, .int .i64 k1, .int .i64 k2, .int .i64 k3, .int .u32 k4]) ∧ Below W.heap.size W w') :
    Calls Tryz.prog 107 #[.int .i64 x, .pointer (some ⟨bb, 0, none⟩)] w fun e w' => e = .returned (Value.agg #[.int .i64 k0, .int .i64 k1, .int .i64 k2, .int .i64 k3, .int .u32 k4]) ∧ Below w.heap.size w w' := by
  have HC := Lib.hid hc
  have H := Lib.hid h
  have HX := Lib.hid (show w.cell? ⟨bb, 0, none⟩ = some (.pointer (some ⟨L.P, 0, none⟩)) ∧ bb < w.heap.size from ⟨hb, hbl⟩)
  clear h hc hb hbl
  go_enter Tryz.func107, Tryz.ntmps107
  go_upto_region 1 with fail
  generalize hA : World.alloc w _ = wA
  have HA : Hid (Below w.heap.size w wA ∧ KeyC wA w.heap.size 0 0 0 0 0) := Lib.hid (by rw [← hA]; exact ⟨(Below.refl _ _).alloc (Nat.le_refl _) _, KeyC.new w 0 0 0 0 0 _⟩)
  clear hA
  have HWA := Lib.hid (H.out.below HA.out.1)
  have c0 := (HA.out.1.cell (p := ⟨bb, 0, none⟩) HX.out.2).trans HX.out.1
  have f1 := HWA.out.kk.f1
  have m0 := HWA.out.mm.m0
  go_wp2_with (first
    | (go_at_call 53; (with_reducible refine (HC.out _ HA.out.1).mono ?_); rintro e w1 ⟨rfl, hb⟩; have HB := Lib.hid (HA.out.1.trans (hb.mono HA.out.1.size)); have HK := Lib.hid (HA.out.2.below hb); have q0 := HK.out.c0; have q1 := HK.out.c1; have q2 := HK.out.c2; have q3 := HK.out.c3; have q4 := HK.out.c4; have g0 := HK.out.fr 0; have g1 := HK.out.fr 1; have g2 := HK.out.fr 2; have g3 := HK.out.fr 3; have g4 := HK.out.fr 4; clear hb c0 f1 m0))
  have t := HK.out.set k0 k1 k2 k3 k4
  have t0 := t.c0
  have t1 := t.c1
  have t2 := t.c2
  have t3 := t.c3
  have t4 := t.c4
  refine bodyPost_ret (v := (Value.agg #[.int .i64 k0, .int .i64 k1, .int .i64 k2, .int .i64 k3, .int .u32 k4])) (by simp [results, Tryz.results107, go_sem, t0, t1, t2, t3, t4]) rfl ⟨rfl, ?_⟩
  exact ((((HB.out.setCell (Nat.le_refl _) _).setCell (Nat.le_refl _) _).setCell (Nat.le_refl _) _).setCell (Nat.le_refl _) _).setCell (Nat.le_refl _) _
end Go.Proofs.YtncopdhhchmpeaaGreatDoor
namespace Go.Proofs.YtncopdhhchmpeaaGreatDoor
open Go.ChangeShapes Go.WideShapes Go.ChangeAt Go.RowKit
set_option linter.unusedVariables false
set_option linter.unusedSimpArgs false
/-- Is what a key names there? -/
def liveK (L : BLoc) (D : BSt) (k0 k1 k2 : Int) : Bool := if k0 = 4 then (thereB L.dn D.dt k1 && (D.dv k1.toNat == k2)) else (if k0 = 2 then (thereB L.a.n D.nt k1 && (D.nv k1.toNat == k2)) else if k0 = 3 then (thereB L.b.n D.pt k1 && (D.pv k1.toNat == k2)) else false)
theorem KeyC.k5 {w : World} {b : Nat} {k0 k1 k2 k3 k4 : Int} (h : KeyC w b k0 k1 k2 k3 k4) : (World.cell? w ⟨b, 0, none⟩ = some (.int .i64 k0) ∧ World.cell? w ⟨b, 1, none⟩ = some (.int .i64 k1) ∧ World.cell? w ⟨b, 2, none⟩ = some (.int .i64 k2) ∧ World.cell? w ⟨b, 3, none⟩ = some (.int .i64 k3) ∧ World.cell? w ⟨b, 4, none⟩ = some (.int .u32 k4)) := ⟨h.c0, h.c1, h.c2, h.c3, h.c4⟩
set_option maxRecDepth 100000 in
set_option maxHeartbeats 1000000 in
theorem blive_is {w0 : World} {L : BLoc} {D : BSt} (k0 k1 k2 k3 k4 : Int) (t : Bool) (ht : Hid (liveK L D k0 k1 k2 = t)) (w : World) (h : BW w0 w L D) :
    Calls Tryz.prog 78 #[.pointer (some ⟨L.P, 0, none⟩), (Value.agg #[.int .i64 k0, .int .i64 k1, .int .i64 k2, .int .i64 k3, .int .u32 k4])] w fun e w' => e = .returned (.bool t) ∧ Below w.heap.size w w' := by
  have H := Lib.hid h
  clear h
  by_cases h4 : k0 = 4
  · have t4 : (k0 == 4) = true := by simpa using h4
    have HT : Hid ((thereB L.dn D.dt k1 && (D.dv k1.toNat == k2)) = t) := Lib.hid (by have := ht.out; unfold liveK at this; rwa [if_pos h4] at this)
    clear ht h4
    go_enter Tryz.func78, Tryz.ntmps78
    go_upto_region 2 with fail
    generalize hw2 : World.alloc w _ = w2
    have HB2 : Hid (Below w.heap.size w w2) := Lib.hid (by rw [← hw2]; exact (Below.refl _ _).alloc (Nat.le_refl _) _)
    obtain ⟨kb, hkb⟩ : ∃ kb, kb = w.heap.size := ⟨_, rfl⟩
    have HK2 : Hid (KeyC w2 kb k0 k1 k2 k3 k4) := Lib.hid (by rw [← hw2, hkb]; exact KeyC.new w k0 k1 k2 k3 k4 _)
    rw [← hkb]
    clear hw2 hkb
    have HW2 := Lib.hid ((H.out.below HB2.out).below (Below.refl _ _).drew)
    have hS0 : (World.cell? w2.drew ⟨L.P, 2, none⟩ = some (.pointer (some ⟨L.dP, 0, none⟩)) ∧ World.cell? w2.drew ⟨L.dP, 0, none⟩ = some (.pointer (some ⟨L.dp, 0, none⟩)) ∧ (World.cell? w2.drew ⟨kb, 0, none⟩ = some (.int .i64 k0) ∧ World.cell? w2.drew ⟨kb, 1, none⟩ = some (.int .i64 k1) ∧ World.cell? w2.drew ⟨kb, 2, none⟩ = some (.int .i64 k2) ∧ World.cell? w2.drew ⟨kb, 3, none⟩ = some (.int .i64 k3) ∧ World.cell? w2.drew ⟨kb, 4, none⟩ = some (.int .u32 k4))) := ⟨HW2.out.kk.f2, HW2.out.dd.pl.f0, (HK2.out.below (Below.refl _ _).drew).k5⟩
    refine wp_region_noPanic ?_
    refine wp_region_held_drew (S := fun w' => (World.cell? w' ⟨L.P, 2, none⟩ = some (.pointer (some ⟨L.dP, 0, none⟩)) ∧ World.cell? w' ⟨L.dP, 0, none⟩ = some (.pointer (some ⟨L.dp, 0, none⟩)) ∧ (World.cell? w' ⟨kb, 0, none⟩ = some (.int .i64 k0) ∧ World.cell? w' ⟨kb, 1, none⟩ = some (.int .i64 k1) ∧ World.cell? w' ⟨kb, 2, none⟩ = some (.int .i64 k2) ∧ World.cell? w' ⟨kb, 3, none⟩ = some (.int .i64 k3) ∧ World.cell? w' ⟨kb, 4, none⟩ = some (.int .u32 k4)))) (by kernel_rfl) hS0 (fun hHeld => ?_)
    clear hS0
    refine wpAnyH_take (i := 0) (v := ?_) (by rfl) (by kernel_rfl) (by kernel_rfl) (by kernel_rfl) (fun _ _ _ h => h) (Or.inl ⟨by kernel_rfl, ?_⟩) (by assumption) ?_; rotate_left 1; (focus (intro w hSw; (try dsimp only at hSw); simp only [List.getElem_toArray, List.getElem_cons_succ, List.getElem_cons_zero]; all_goals go_simp; all_goals (try with_reducible rfl))); (try simp only [Act.put, List.getElem_toArray, List.getElem_cons_succ, List.getElem_cons_zero, List.setIfInBounds_toArray, List.set_cons_zero, List.set_cons_succ])
    refine wpAnyH_take (i := 1) (v := ?_) (by rfl) (by kernel_rfl) (by kernel_rfl) (by kernel_rfl) (fun _ _ _ h => h) (Or.inl ⟨by kernel_rfl, ?_⟩) (by assumption) ?_; rotate_left 1; (focus (intro w hSw; (try dsimp only at hSw); simp only [List.getElem_toArray, List.getElem_cons_succ, List.getElem_cons_zero]; all_goals go_simp; all_goals (try with_reducible rfl))); (try simp only [Act.put, List.getElem_toArray, List.getElem_cons_succ, List.getElem_cons_zero, List.setIfInBounds_toArray, List.set_cons_zero, List.set_cons_succ])
    refine wpAnyH_take (i := 2) (v := ?_) (by rfl) (by kernel_rfl) (by kernel_rfl) (by kernel_rfl) (fun _ _ _ h => h) (Or.inl ⟨by kernel_rfl, ?_⟩) (by assumption) ?_; rotate_left 1; (focus (intro w hSw; (try dsimp only at hSw); simp only [List.getElem_toArray, List.getElem_cons_succ, List.getElem_cons_zero]; all_goals go_simp; all_goals (try with_reducible rfl))); (try simp only [Act.put, List.getElem_toArray, List.getElem_cons_succ, List.getElem_cons_zero, List.setIfInBounds_toArray, List.set_cons_zero, List.set_cons_succ])
    refine wpAnyH_take (i := 3) (v := ?_) (by rfl) (by kernel_rfl) (by kernel_rfl) (by kernel_rfl) (fun _ _ _ h => h) (Or.inl ⟨by kernel_rfl, ?_⟩) (by assumption) ?_; rotate_left 1; (focus (intro w hSw; (try dsimp only at hSw); simp only [List.getElem_toArray, List.getElem_cons_succ, List.getElem_cons_zero]; all_goals go_simp; all_goals (try with_reducible rfl))); (try simp only [Act.put, List.getElem_toArray, List.getElem_cons_succ, List.getElem_cons_zero, List.setIfInBounds_toArray, List.set_cons_zero, List.set_cons_succ])
    refine wpAnyH_take (i := 4) (v := ?_) (by rfl) (by kernel_rfl) (by kernel_rfl) (by kernel_rfl) (fun _ _ _ h => h) (Or.inl ⟨by kernel_rfl, ?_⟩) (by assumption) ?_; rotate_left 1; (focus (intro w hSw; (try dsimp only at hSw); simp only [List.getElem_toArray, List.getElem_cons_succ, List.getElem_cons_zero]; all_goals go_simp; all_goals (try with_reducible rfl))); (try simp only [Act.put, List.getElem_toArray, List.getElem_cons_succ, List.getElem_cons_zero, List.setIfInBounds_toArray, List.set_cons_zero, List.set_cons_succ])
    refine wpAnyH_take (i := 5) (v := ?_) (by rfl) (by kernel_rfl) (by kernel_rfl) (by kernel_rfl) (fun _ _ _ h => h) (Or.inl ⟨by kernel_rfl, ?_⟩) (by assumption) ?_; rotate_left 1; (focus (intro w hSw; (try dsimp only at hSw); simp only [List.getElem_toArray, List.getElem_cons_succ, List.getElem_cons_zero]; all_goals go_simp; all_goals (try with_reducible rfl))); (try simp only [Act.put, List.getElem_toArray, List.getElem_cons_succ, List.getElem_cons_zero, List.setIfInBounds_toArray, List.set_cons_zero, List.set_cons_succ])
    refine wpAnyH_take (i := 6) (v := ?_) (by rfl) (by kernel_rfl) (by kernel_rfl) (by kernel_rfl) (fun _ _ _ h => h) (Or.inl ⟨by kernel_rfl, ?_⟩) (by assumption) ?_; rotate_left 1; (focus (intro w hSw; (try dsimp only at hSw); simp only [List.getElem_toArray, List.getElem_cons_succ, List.getElem_cons_zero]; all_goals go_simp; all_goals (try with_reducible rfl))); (try simp only [Act.put, List.getElem_toArray, List.getElem_cons_succ, List.getElem_cons_zero, List.setIfInBounds_toArray, List.set_cons_zero, List.set_cons_succ])
    refine wpAnyH_take (i := 7) (v := ?_) (by rfl) (by kernel_rfl) (by kernel_rfl) (by kernel_rfl) (fun _ _ _ h => h) (Or.inl ⟨by kernel_rfl, ?_⟩) (by assumption) ?_; rotate_left 1; (focus (intro w hSw; (try dsimp only at hSw); simp only [List.getElem_toArray, List.getElem_cons_succ, List.getElem_cons_zero]; all_goals go_simp; all_goals (try with_reducible rfl))); (try simp only [Act.put, List.getElem_toArray, List.getElem_cons_succ, List.getElem_cons_zero, List.setIfInBounds_toArray, List.set_cons_zero, List.set_cons_succ])
    refine wpAnyH_take (i := 8) (v := ?_) (by rfl) (by kernel_rfl) (by kernel_rfl) (by kernel_rfl) (fun _ _ _ h => h) (Or.inl ⟨by kernel_rfl, ?_⟩) (by assumption) ?_; rotate_left 1; (focus (intro w hSw; (try dsimp only at hSw); simp only [List.getElem_toArray, List.getElem_cons_succ, List.getElem_cons_zero]; all_goals go_simp; all_goals (try with_reducible rfl))); (try simp only [Act.put, List.getElem_toArray, List.getElem_cons_succ, List.getElem_cons_zero, List.setIfInBounds_toArray, List.set_cons_zero, List.set_cons_succ])
    refine wpAnyH_take (i := 9) (v := ?_) (by rfl) (by kernel_rfl) (by kernel_rfl) (by kernel_rfl) (fun _ _ _ h => h) (Or.inl ⟨by kernel_rfl, ?_⟩) (by assumption) ?_; rotate_left 1; (focus (intro w hSw; (try dsimp only at hSw); simp only [List.getElem_toArray, List.getElem_cons_succ, List.getElem_cons_zero]; all_goals go_simp; all_goals (try with_reducible rfl))); (try simp only [Act.put, List.getElem_toArray, List.getElem_cons_succ, List.getElem_cons_zero, List.setIfInBounds_toArray, List.set_cons_zero, List.set_cons_succ])
    refine wpAnyH_take (i := 10) (v := ?_) (by rfl) (by kernel_rfl) (by kernel_rfl) (by kernel_rfl) (fun _ _ _ h => h) (Or.inl ⟨by kernel_rfl, ?_⟩) (by assumption) ?_; rotate_left 1; (focus (intro w hSw; (try dsimp only at hSw); simp only [List.getElem_toArray, List.getElem_cons_succ, List.getElem_cons_zero]; all_goals go_simp; all_goals (try with_reducible rfl))); (try simp only [Act.put, List.getElem_toArray, List.getElem_cons_succ, List.getElem_cons_zero, List.setIfInBounds_toArray, List.set_cons_zero, List.set_cons_succ])
    refine wpAnyH_ready (rs := [11]) (by kernel_rfl) (by simp) ?_; refine AllReadyH.cons (by rfl) (fun K hK => ?_) AllReadyH.nil; rw [if_pos (by kernel_rfl)]; simp only [List.getElem_toArray, List.getElem_cons_succ, List.getElem_cons_zero]
    go_wp2_with (first
      | (go_at_call 67; (with_reducible refine (alive_is k1 k2 t HT _ HW2.out.dd.pl.ar).mono ?_); rintro e w3 ⟨rfl, rfl⟩))
    refine hK.out _ _ (by assumption) (fun hHeld => ?_)
    clear hK K
    (try simp only [Act.put, List.getElem_toArray, List.getElem_cons_succ, List.getElem_cons_zero, List.setIfInBounds_toArray, List.set_cons_zero, List.set_cons_succ])
    refine wpAnyH_take (i := 12) (v := ?_) (by rfl) (by kernel_rfl) (by kernel_rfl) (by kernel_rfl) (fun _ _ _ h => h) (Or.inl ⟨by kernel_rfl, ?_⟩) (by assumption) ?_; rotate_left 1; (focus (intro w hSw; (try dsimp only at hSw); simp only [List.getElem_toArray, List.getElem_cons_succ, List.getElem_cons_zero]; all_goals go_simp; all_goals (try with_reducible rfl))); (try simp only [Act.put, List.getElem_toArray, List.getElem_cons_succ, List.getElem_cons_zero, List.setIfInBounds_toArray, List.set_cons_zero, List.set_cons_succ])
    refine wpAnyH_done (by kernel_rfl) ?_ _
    refine NoPanic.normal ?_
    go_wp2_with fail
    go_ret
    exact ⟨rfl, HB2.out.drew⟩
  · have t4 : (k0 == 4) = false := by simpa using h4
    have HT : Hid ((if k0 = 2 then (thereB L.a.n D.nt k1 && (D.nv k1.toNat == k2)) else if k0 = 3 then (thereB L.b.n D.pt k1 && (D.pv k1.toNat == k2)) else false) = t) := Lib.hid (by have := ht.out; unfold liveK at this; rwa [if_neg h4] at this)
    clear ht h4
    go_enter Tryz.func78, Tryz.ntmps78
    go_upto_region 3 with fail
    generalize hw2 : World.alloc w _ = w2
    have HB2 : Hid (Below w.heap.size w w2) := Lib.hid (by rw [← hw2]; exact (Below.refl _ _).alloc (Nat.le_refl _) _)
    obtain ⟨kb, hkb⟩ : ∃ kb, kb = w.heap.size := ⟨_, rfl⟩
    have HK2 : Hid (KeyC w2 kb k0 k1 k2 k3 k4) := Lib.hid (by rw [← hw2, hkb]; exact KeyC.new w k0 k1 k2 k3 k4 _)
    rw [← hkb]
    clear hw2 hkb
    have HW2 := Lib.hid ((H.out.below HB2.out).below (Below.refl _ _).drew)
    have HKd := Lib.hid (HK2.out.below (Below.refl _ _).drew)
    have hS0 : (World.cell? w2.drew ⟨L.P, 1, none⟩ = some (.pointer (some ⟨L.mb, 0, none⟩)) ∧ World.cell? w2.drew ⟨L.mb, 0, none⟩ = some (.pointer (some ⟨L.S, 0, none⟩)) ∧ (World.cell? w2.drew ⟨kb, 0, none⟩ = some (.int .i64 k0) ∧ World.cell? w2.drew ⟨kb, 1, none⟩ = some (.int .i64 k1) ∧ World.cell? w2.drew ⟨kb, 2, none⟩ = some (.int .i64 k2) ∧ World.cell? w2.drew ⟨kb, 3, none⟩ = some (.int .i64 k3) ∧ World.cell? w2.drew ⟨kb, 4, none⟩ = some (.int .u32 k4))) := ⟨HW2.out.kk.f1, HW2.out.mm.m0, HKd.out.k5⟩
    refine wp_region_noPanic ?_
    refine wp_region_held_drew (S := fun w' => (World.cell? w' ⟨L.P, 1, none⟩ = some (.pointer (some ⟨L.mb, 0, none⟩)) ∧ World.cell? w' ⟨L.mb, 0, none⟩ = some (.pointer (some ⟨L.S, 0, none⟩)) ∧ (World.cell? w' ⟨kb, 0, none⟩ = some (.int .i64 k0) ∧ World.cell? w' ⟨kb, 1, none⟩ = some (.int .i64 k1) ∧ World.cell? w' ⟨kb, 2, none⟩ = some (.int .i64 k2) ∧ World.cell? w' ⟨kb, 3, none⟩ = some (.int .i64 k3) ∧ World.cell? w' ⟨kb, 4, none⟩ = some (.int .u32 k4)))) (by kernel_rfl) hS0 (fun hHeld => ?_)
    clear hS0
    refine wpAnyH_take (i := 0) (v := ?_) (by rfl) (by kernel_rfl) (by kernel_rfl) (by kernel_rfl) (fun _ _ _ h => h) (Or.inl ⟨by kernel_rfl, ?_⟩) (by assumption) ?_; rotate_left 1; (focus (intro w hSw; (try dsimp only at hSw); simp only [List.getElem_toArray, List.getElem_cons_succ, List.getElem_cons_zero]; all_goals go_simp; all_goals (try with_reducible rfl))); (try simp only [Act.put, List.getElem_toArray, List.getElem_cons_succ, List.getElem_cons_zero, List.setIfInBounds_toArray, List.set_cons_zero, List.set_cons_succ])
    refine wpAnyH_take (i := 1) (v := ?_) (by rfl) (by kernel_rfl) (by kernel_rfl) (by kernel_rfl) (fun _ _ _ h => h) (Or.inl ⟨by kernel_rfl, ?_⟩) (by assumption) ?_; rotate_left 1; (focus (intro w hSw; (try dsimp only at hSw); simp only [List.getElem_toArray, List.getElem_cons_succ, List.getElem_cons_zero]; all_goals go_simp; all_goals (try with_reducible rfl))); (try simp only [Act.put, List.getElem_toArray, List.getElem_cons_succ, List.getElem_cons_zero, List.setIfInBounds_toArray, List.set_cons_zero, List.set_cons_succ])
    refine wpAnyH_take (i := 2) (v := ?_) (by rfl) (by kernel_rfl) (by kernel_rfl) (by kernel_rfl) (fun _ _ _ h => h) (Or.inl ⟨by kernel_rfl, ?_⟩) (by assumption) ?_; rotate_left 1; (focus (intro w hSw; (try dsimp only at hSw); simp only [List.getElem_toArray, List.getElem_cons_succ, List.getElem_cons_zero]; all_goals go_simp; all_goals (try with_reducible rfl))); (try simp only [Act.put, List.getElem_toArray, List.getElem_cons_succ, List.getElem_cons_zero, List.setIfInBounds_toArray, List.set_cons_zero, List.set_cons_succ])
    refine wpAnyH_take (i := 3) (v := ?_) (by rfl) (by kernel_rfl) (by kernel_rfl) (by kernel_rfl) (fun _ _ _ h => h) (Or.inl ⟨by kernel_rfl, ?_⟩) (by assumption) ?_; rotate_left 1; (focus (intro w hSw; (try dsimp only at hSw); simp only [List.getElem_toArray, List.getElem_cons_succ, List.getElem_cons_zero]; all_goals go_simp; all_goals (try with_reducible rfl))); (try simp only [Act.put, List.getElem_toArray, List.getElem_cons_succ, List.getElem_cons_zero, List.setIfInBounds_toArray, List.set_cons_zero, List.set_cons_succ])
    refine wpAnyH_take (i := 4) (v := ?_) (by rfl) (by kernel_rfl) (by kernel_rfl) (by kernel_rfl) (fun _ _ _ h => h) (Or.inl ⟨by kernel_rfl, ?_⟩) (by assumption) ?_; rotate_left 1; (focus (intro w hSw; (try dsimp only at hSw); simp only [List.getElem_toArray, List.getElem_cons_succ, List.getElem_cons_zero]; all_goals go_simp; all_goals (try with_reducible rfl))); (try simp only [Act.put, List.getElem_toArray, List.getElem_cons_succ, List.getElem_cons_zero, List.setIfInBounds_toArray, List.set_cons_zero, List.set_cons_succ])
    refine wpAnyH_take (i := 5) (v := ?_) (by rfl) (by kernel_rfl) (by kernel_rfl) (by kernel_rfl) (fun _ _ _ h => h) (Or.inl ⟨by kernel_rfl, ?_⟩) (by assumption) ?_; rotate_left 1; (focus (intro w hSw; (try dsimp only at hSw); simp only [List.getElem_toArray, List.getElem_cons_succ, List.getElem_cons_zero]; all_goals go_simp; all_goals (try with_reducible rfl))); (try simp only [Act.put, List.getElem_toArray, List.getElem_cons_succ, List.getElem_cons_zero, List.setIfInBounds_toArray, List.set_cons_zero, List.set_cons_succ])
    refine wpAnyH_take (i := 6) (v := ?_) (by rfl) (by kernel_rfl) (by kernel_rfl) (by kernel_rfl) (fun _ _ _ h => h) (Or.inl ⟨by kernel_rfl, ?_⟩) (by assumption) ?_; rotate_left 1; (focus (intro w hSw; (try dsimp only at hSw); simp only [List.getElem_toArray, List.getElem_cons_succ, List.getElem_cons_zero]; all_goals go_simp; all_goals (try with_reducible rfl))); (try simp only [Act.put, List.getElem_toArray, List.getElem_cons_succ, List.getElem_cons_zero, List.setIfInBounds_toArray, List.set_cons_zero, List.set_cons_succ])
    refine wpAnyH_take (i := 7) (v := ?_) (by rfl) (by kernel_rfl) (by kernel_rfl) (by kernel_rfl) (fun _ _ _ h => h) (Or.inl ⟨by kernel_rfl, ?_⟩) (by assumption) ?_; rotate_left 1; (focus (intro w hSw; (try dsimp only at hSw); simp only [List.getElem_toArray, List.getElem_cons_succ, List.getElem_cons_zero]; all_goals go_simp; all_goals (try with_reducible rfl))); (try simp only [Act.put, List.getElem_toArray, List.getElem_cons_succ, List.getElem_cons_zero, List.setIfInBounds_toArray, List.set_cons_zero, List.set_cons_succ])
    refine wpAnyH_ready (rs := [8]) (by kernel_rfl) (by simp) ?_; refine AllReadyH.cons (by rfl) (fun K hK => ?_) AllReadyH.nil; rw [if_pos (by kernel_rfl)]; simp only [List.getElem_toArray, List.getElem_cons_succ, List.getElem_cons_zero]
    go_wp2_with (first
      | (go_at_call 66; (with_reducible refine (slive_is k0 k1 k2 k3 k4 t HT _ HW2.out.mm.sv.st).mono ?_); rintro e w3 ⟨rfl, hb⟩; have HW3 := Lib.hid (HW2.out.below hb); have HK3 := Lib.hid (HKd.out.below hb); have HB3 := Lib.hid hb; clear hb))
    refine hK.out _ _ ⟨HW3.out.kk.f1, HW3.out.mm.m0, HK3.out.k5⟩ (fun hHeld => ?_)
    clear hK K
    (try simp only [Act.put, List.getElem_toArray, List.getElem_cons_succ, List.getElem_cons_zero, List.setIfInBounds_toArray, List.set_cons_zero, List.set_cons_succ])
    refine wpAnyH_take (i := 9) (v := ?_) (by rfl) (by kernel_rfl) (by kernel_rfl) (by kernel_rfl) (fun _ _ _ h => h) (Or.inl ⟨by kernel_rfl, ?_⟩) (by assumption) ?_; rotate_left 1; (focus (intro w hSw; (try dsimp only at hSw); simp only [List.getElem_toArray, List.getElem_cons_succ, List.getElem_cons_zero]; all_goals go_simp; all_goals (try with_reducible rfl))); (try simp only [Act.put, List.getElem_toArray, List.getElem_cons_succ, List.getElem_cons_zero, List.setIfInBounds_toArray, List.set_cons_zero, List.set_cons_succ])
    refine wpAnyH_done (by kernel_rfl) ?_ _
    refine NoPanic.normal ?_
    go_wp2_with fail
    go_ret
    exact ⟨rfl, HB2.out.drew.trans (HB3.out.mono (by simpa using HB2.out.size))⟩
theorem btitles_is {w0 : World} {L : BLoc} {D : BSt} (k0 : Int) (G : Nat) (hk : k0 = 2 ∧ G = L.G1 ∨ k0 = 3 ∧ G = L.G2 ∨ ¬ k0 = 2 ∧ ¬ k0 = 3 ∧ G = L.G3) (w : World) (h : BW w0 w L D) :
    Calls Tryz.prog 111 #[.pointer (some ⟨L.P, 0, none⟩), .int .i64 k0] w fun e w' => e = .returned (.slice (some ⟨G, 0, none⟩) 256 256) ∧ w = w' := by
  have f4 := h.kk.f4
  have f5 := h.kk.f5
  have f6 := h.kk.f6
  clear h
  rcases hk with ⟨rfl, rfl⟩ | ⟨rfl, rfl⟩ | ⟨h2, h3, rfl⟩
  · go_enter Tryz.func111, Tryz.ntmps111
    go_wp2_with fail
    go_ret
    exact ⟨rfl, rfl⟩
  · go_enter Tryz.func111, Tryz.ntmps111
    go_wp2_with fail
    go_ret
    exact ⟨rfl, rfl⟩
  · have t2 : (k0 == 2) = false := by simpa using h2
    have t3 : (k0 == 3) = false := by simpa using h3
    clear h2 h3
    go_enter Tryz.func111, Tryz.ntmps111
    go_wp2_with fail
    go_ret
    exact ⟨rfl, rfl⟩
end Go.Proofs.YtncopdhhchmpeaaGreatDoor
namespace Go.Proofs.YtncopdhhchmpeaaGreatDoor
open Go.ChangeShapes Go.WideShapes Go.ChangeAt Go.RowKit
set_option linter.unusedVariables false
set_option linter.unusedSimpArgs false
/-- A title among the titles of a kind. -/
structure TiAt (w : World) (L : BLoc) (k0 : Int) (G j : Nat) (x y : Int) : Prop where
  hk : k0 = 2 ∧ G = L.G1 ∨ k0 = 3 ∧ G = L.G2 ∨ ¬ k0 = 2 ∧ ¬ k0 = 3 ∧ G = L.G3
  lt : G < w.heap.size
  c0 : w.cell? ⟨G, j * 2, none⟩ = some (.int .i64 x)
  c1 : w.cell? ⟨G, j * 2 + 1, none⟩ = some (.int .i64 y)
theorem TiAt.below {w w' : World} {L : BLoc} {k0 : Int} {G j : Nat} {x y : Int} (h : TiAt w L k0 G j x y) (hb : Below w.heap.size w w') : TiAt w' L k0 G j x y :=
  ⟨h.hk, Nat.lt_of_lt_of_le h.lt hb.size, (hb.cell (p := ⟨G, j * 2, none⟩) h.lt).trans h.c0, (hb.cell (p := ⟨G, j * 2 + 1, none⟩) h.lt).trans h.c1⟩
set_option maxRecDepth 100000 in
set_option maxHeartbeats 2000000 in
theorem bowner_live {w0 : World} {L : BLoc} {D : BSt} (k0 : Int) (k1 : Nat) (k2 k3 k4 : Int) (G q : Nat) (hj2 : k1 < 256) (hq : q < D.nb) (ht : Hid (liveK L D k0 k1 k2 = true)) (w : World) (h : BW w0 w L D) (hT : TiAt w L k0 G k1 q k2) :
    Calls Tryz.prog 79 #[.pointer (some ⟨L.P, 0, none⟩), (Value.agg #[.int .i64 k0, .int .i64 k1, .int .i64 k2, .int .i64 k3, .int .u32 k4])] w fun e w' => e = .returned (.int .i64 (q : Int)) ∧ Below w.heap.size w w' := by
  have H := Lib.hid h
  have HT := Lib.hid hT
  have HKk := Lib.hid hT.hk
  have hnb := h.nn
  have hn := h.n256
  have j0 : (0 : Int) ≤ k1 := by omega
  have j1 : (k1 : Int) < 256 := by omega
  clear h hT
  go_enter Tryz.func79, Tryz.ntmps79
  go_upto_region 1 with fail
  generalize hw2 : World.alloc w _ = w2
  have HB2 : Hid (Below w.heap.size w w2) := Lib.hid (by rw [← hw2]; exact (Below.refl _ _).alloc (Nat.le_refl _) _)
  obtain ⟨kb, hkb⟩ : ∃ kb, kb = w.heap.size := ⟨_, rfl⟩
  have HK2 : Hid (KeyC w2 kb (k0) (k1 : Int) k2 k3 k4) := Lib.hid (by rw [← hw2, hkb]; exact KeyC.new w k0 (k1 : Int) k2 k3 k4 _)
  rw [← hkb]
  clear hw2 hkb
  have HW2 := Lib.hid (H.out.below HB2.out)
  have q0 := HK2.out.c0
  have q1 := HK2.out.c1
  have q2 := HK2.out.c2
  have q3 := HK2.out.c3
  have q4 := HK2.out.c4
  go_upto_region 3 with (first
    | (go_at_call 78; (with_reducible refine (blive_is k0 (k1 : Int) k2 k3 k4 true ht _ HW2.out).mono ?_); rintro e w3 ⟨rfl, hb⟩; have HB3 := Lib.hid (HB2.out.trans (hb.mono HB2.out.size)); have HK3 := Lib.hid (HK2.out.below hb); have HW3 := Lib.hid (HW2.out.below hb); clear hb q0 q1 q2 q3 q4))
  obtain ⟨wD, hwD⟩ : ∃ wD, wD = w3.drew := ⟨_, rfl⟩
  have HBD : Hid (Below w3.heap.size w3 wD) := Lib.hid (by rw [hwD]; exact (Below.refl _ _).drew)
  have HKD := Lib.hid (HK3.out.below HBD.out)
  have HTD := Lib.hid (HT.out.below (HB3.out.trans (HBD.out.mono HB3.out.size)))
  have HWD := Lib.hid (HW3.out.below HBD.out)
  have HSO : Hid (∀ W, Below wD.heap.size wD W → ((World.cell? W ⟨kb, 0, none⟩ = some (.int .i64 k0) ∧ World.cell? W ⟨kb, 1, none⟩ = some (.int .i64 k1) ∧ World.cell? W ⟨kb, 2, none⟩ = some (.int .i64 k2) ∧ World.cell? W ⟨kb, 3, none⟩ = some (.int .i64 k3) ∧ World.cell? W ⟨kb, 4, none⟩ = some (.int .u32 k4)) ∧ World.cell? W ⟨G, k1 * 2, none⟩ = some (.int .i64 (q : Int)) ∧ World.cell? W ⟨G, k1 * 2 + 1, none⟩ = some (.int .i64 k2))) := Lib.hid (fun W hb => ⟨(HKD.out.below hb).k5, (HTD.out.below hb).c0, (HTD.out.below hb).c1⟩)
  refine wp_region_noPanic ?_
  refine wp_region_held_drew (S := fun w' => ((World.cell? w' ⟨kb, 0, none⟩ = some (.int .i64 k0) ∧ World.cell? w' ⟨kb, 1, none⟩ = some (.int .i64 k1) ∧ World.cell? w' ⟨kb, 2, none⟩ = some (.int .i64 k2) ∧ World.cell? w' ⟨kb, 3, none⟩ = some (.int .i64 k3) ∧ World.cell? w' ⟨kb, 4, none⟩ = some (.int .u32 k4)) ∧ World.cell? w' ⟨G, k1 * 2, none⟩ = some (.int .i64 (q : Int)) ∧ World.cell? w' ⟨G, k1 * 2 + 1, none⟩ = some (.int .i64 k2))) (by kernel_rfl) (by rw [← hwD]; exact HSO.out _ (Below.refl _ _)) (fun hHeld => ?_)
  rw [← hwD] at hHeld ⊢
  clear hwD
  refine wpAnyH_take (i := 0) (v := ?_) (by rfl) (by kernel_rfl) (by kernel_rfl) (by kernel_rfl) (fun _ _ _ h => h) (Or.inl ⟨by kernel_rfl, ?_⟩) (by assumption) ?_; rotate_left 1; (focus (intro w hSw; (try dsimp only at hSw); simp only [List.getElem_toArray, List.getElem_cons_succ, List.getElem_cons_zero]; all_goals go_simp; all_goals (try with_reducible rfl))); (try simp only [Act.put, List.getElem_toArray, List.getElem_cons_succ, List.getElem_cons_zero, List.setIfInBounds_toArray, List.set_cons_zero, List.set_cons_succ])
  refine wpAnyH_take (i := 1) (v := ?_) (by rfl) (by kernel_rfl) (by kernel_rfl) (by kernel_rfl) (fun _ _ _ h => h) (Or.inl ⟨by kernel_rfl, ?_⟩) (by assumption) ?_; rotate_left 1; (focus (intro w hSw; (try dsimp only at hSw); simp only [List.getElem_toArray, List.getElem_cons_succ, List.getElem_cons_zero]; all_goals go_simp; all_goals (try with_reducible rfl))); (try simp only [Act.put, List.getElem_toArray, List.getElem_cons_succ, List.getElem_cons_zero, List.setIfInBounds_toArray, List.set_cons_zero, List.set_cons_succ])
  refine wpAnyH_take (i := 2) (v := ?_) (by rfl) (by kernel_rfl) (by kernel_rfl) (by kernel_rfl) (fun _ _ _ h => h) (Or.inl ⟨by kernel_rfl, ?_⟩) (by assumption) ?_; rotate_left 1; (focus (intro w hSw; (try dsimp only at hSw); simp only [List.getElem_toArray, List.getElem_cons_succ, List.getElem_cons_zero]; all_goals go_simp; all_goals (try with_reducible rfl))); (try simp only [Act.put, List.getElem_toArray, List.getElem_cons_succ, List.getElem_cons_zero, List.setIfInBounds_toArray, List.set_cons_zero, List.set_cons_succ])
  refine wpAnyH_take (i := 4) (v := ?_) (by rfl) (by kernel_rfl) (by kernel_rfl) (by kernel_rfl) (fun _ _ _ h => h) (Or.inl ⟨by kernel_rfl, ?_⟩) (by assumption) ?_; rotate_left 1; (focus (intro w hSw; (try dsimp only at hSw); simp only [List.getElem_toArray, List.getElem_cons_succ, List.getElem_cons_zero]; all_goals go_simp; all_goals (try with_reducible rfl))); (try simp only [Act.put, List.getElem_toArray, List.getElem_cons_succ, List.getElem_cons_zero, List.setIfInBounds_toArray, List.set_cons_zero, List.set_cons_succ])
  refine wpAnyH_take (i := 5) (v := ?_) (by rfl) (by kernel_rfl) (by kernel_rfl) (by kernel_rfl) (fun _ _ _ h => h) (Or.inl ⟨by kernel_rfl, ?_⟩) (by assumption) ?_; rotate_left 1; (focus (intro w hSw; (try dsimp only at hSw); simp only [List.getElem_toArray, List.getElem_cons_succ, List.getElem_cons_zero]; all_goals go_simp; all_goals (try with_reducible rfl))); (try simp only [Act.put, List.getElem_toArray, List.getElem_cons_succ, List.getElem_cons_zero, List.setIfInBounds_toArray, List.set_cons_zero, List.set_cons_succ])
  refine wpAnyH_ready (rs := [3, 8]) (by kernel_rfl) (by simp) ?_
  refine AllReadyH.cons (by rfl) (fun K' hK => ?_) (AllReadyH.cons (by rfl) (fun K' hK => ?_) AllReadyH.nil)
  · rw [if_pos (by kernel_rfl)]; simp only [List.getElem_toArray, List.getElem_cons_succ, List.getElem_cons_zero]
    go_wp2_with (first
      | (go_at_call 111; (with_reducible refine (btitles_is k0 G HKk.out _ HWD.out).mono ?_); rintro e w5 ⟨rfl, rfl⟩))
    refine hK.out _ _ (HSO.out _ (Below.refl _ _)) (fun hHeld => ?_); clear hK; (try simp only [Act.put, List.getElem_toArray, List.getElem_cons_succ, List.getElem_cons_zero, List.setIfInBounds_toArray, List.set_cons_zero, List.set_cons_succ])
    refine wpAnyH_take (i := 6) (v := ?_) (by rfl) (by kernel_rfl) (by kernel_rfl) (by kernel_rfl) (fun _ _ _ h => h) (Or.inl ⟨by kernel_rfl, ?_⟩) (by assumption) ?_; rotate_left 1; (focus (intro w hSw; (try dsimp only at hSw); simp only [List.getElem_toArray, List.getElem_cons_succ, List.getElem_cons_zero]; all_goals go_simp; all_goals (try with_reducible rfl))); (try simp only [Act.put, List.getElem_toArray, List.getElem_cons_succ, List.getElem_cons_zero, List.setIfInBounds_toArray, List.set_cons_zero, List.set_cons_succ])
    refine wpAnyH_take (i := 7) (v := ?_) (by rfl) (by kernel_rfl) (by kernel_rfl) (by kernel_rfl) (fun _ _ _ h => h) (Or.inl ⟨by kernel_rfl, ?_⟩) (by assumption) ?_; rotate_left 1; (focus (intro w hSw; (try dsimp only at hSw); simp only [List.getElem_toArray, List.getElem_cons_succ, List.getElem_cons_zero]; all_goals go_simp; all_goals (try with_reducible rfl))); (try simp only [Act.put, List.getElem_toArray, List.getElem_cons_succ, List.getElem_cons_zero, List.setIfInBounds_toArray, List.set_cons_zero, List.set_cons_succ])
    refine wpAnyH_ready (rs := [8]) (by kernel_rfl) (by simp) ?_; refine AllReadyH.cons (by rfl) (fun K hK => ?_) AllReadyH.nil; rw [if_pos (by kernel_rfl)]; simp only [List.getElem_toArray, List.getElem_cons_succ, List.getElem_cons_zero]
    go_wp2_with fail
    refine hK.out _ _ (HSO.out _ ((Below.refl _ _).alloc (Nat.le_refl _) _)) (fun hHeld => ?_); clear hK; (try simp only [Act.put, List.getElem_toArray, List.getElem_cons_succ, List.getElem_cons_zero, List.setIfInBounds_toArray, List.set_cons_zero, List.set_cons_succ])
    refine wpAnyH_ready (rs := [9]) (by kernel_rfl) (by simp) ?_; refine AllReadyH.cons (by rfl) (fun K hK => ?_) AllReadyH.nil; rw [if_pos (by kernel_rfl)]; simp only [List.getElem_toArray, List.getElem_cons_succ, List.getElem_cons_zero]
    go_wp2_with fail
    refine hK.out _ _ (HSO.out _ ((Below.refl _ _).alloc (Nat.le_refl _) _)) (fun hHeld => ?_); clear hK; (try simp only [Act.put, List.getElem_toArray, List.getElem_cons_succ, List.getElem_cons_zero, List.setIfInBounds_toArray, List.set_cons_zero, List.set_cons_succ])
    clear hHeld
    refine wpAnyH_done (by kernel_rfl) ?_ _; refine NoPanic.normal ?_
    generalize hw7 : World.alloc wD _ = w7
    have HB7 : Hid (Below wD.heap.size wD w7) := Lib.hid (by rw [← hw7]; exact (Below.refl _ _).alloc (Nat.le_refl _) _); have HC7 : Hid (w7.cell? ⟨wD.heap.size, 0, none⟩ = some (.int .i64 (q : Int)) ∧ w7.cell? ⟨wD.heap.size, 1, none⟩ = some (.int .i64 k2)) := Lib.hid (by rw [← hw7]; simp); clear hw7; have HK7 := Lib.hid (HKD.out.below HB7.out); have HW7 := Lib.hid ((HWD.out.below HB7.out).below (Below.refl _ _).drew); have HA9 := Lib.hid (fun n => ((HWD.out.below HB7.out).below (below_drewN (Below.refl _ _) n)).kk.ar); obtain ⟨c0, c1⟩ := HC7.out; have q2 := HK7.out.c2; have f0 := HW7.out.kk.f0; have f9 := (HWD.out.below HB7.out).kk.f0; clear HC7; have hk2 : (k2 != k2) = false := (by simp); go_wp2_with fail; go_quiet ((go_at_call 63; exact kquiet_left (athere_in q (by omega) true (Lib.hid (thN_at hq)) _ (HA9.out _)))); go_wp2_with fail; go_ret; exact ⟨rfl, (HB3.out.trans (HBD.out.mono HB3.out.size)).trans ((below_drewN HB7.out _).mono (Nat.le_trans HB3.out.size HBD.out.size))⟩
  · rw [if_pos (by kernel_rfl)]; simp only [List.getElem_toArray, List.getElem_cons_succ, List.getElem_cons_zero]
    go_wp2_with fail
    refine hK.out _ _ (HSO.out _ ((Below.refl _ _).alloc (Nat.le_refl _) _)) (fun hHeld => ?_); clear hK; (try simp only [Act.put, List.getElem_toArray, List.getElem_cons_succ, List.getElem_cons_zero, List.setIfInBounds_toArray, List.set_cons_zero, List.set_cons_succ])
    refine wpAnyH_ready (rs := [3]) (by kernel_rfl) (by simp) ?_; refine AllReadyH.cons (by rfl) (fun K hK => ?_) AllReadyH.nil; rw [if_pos (by kernel_rfl)]; simp only [List.getElem_toArray, List.getElem_cons_succ, List.getElem_cons_zero]
    go_wp2_with (first
      | (go_at_call 111; (with_reducible refine (btitles_is k0 G HKk.out _ (HWD.out.below ((Below.refl _ _).alloc (Nat.le_refl _) _))).mono ?_); rintro e w5 ⟨rfl, rfl⟩))
    refine hK.out _ _ (HSO.out _ ((Below.refl _ _).alloc (Nat.le_refl _) _)) (fun hHeld => ?_); clear hK; (try simp only [Act.put, List.getElem_toArray, List.getElem_cons_succ, List.getElem_cons_zero, List.setIfInBounds_toArray, List.set_cons_zero, List.set_cons_succ])
    refine wpAnyH_take (i := 6) (v := ?_) (by rfl) (by kernel_rfl) (by kernel_rfl) (by kernel_rfl) (fun _ _ _ h => h) (Or.inl ⟨by kernel_rfl, ?_⟩) (by assumption) ?_; rotate_left 1; (focus (intro w hSw; (try dsimp only at hSw); simp only [List.getElem_toArray, List.getElem_cons_succ, List.getElem_cons_zero]; all_goals go_simp; all_goals (try with_reducible rfl))); (try simp only [Act.put, List.getElem_toArray, List.getElem_cons_succ, List.getElem_cons_zero, List.setIfInBounds_toArray, List.set_cons_zero, List.set_cons_succ])
    refine wpAnyH_take (i := 7) (v := ?_) (by rfl) (by kernel_rfl) (by kernel_rfl) (by kernel_rfl) (fun _ _ _ h => h) (Or.inl ⟨by kernel_rfl, ?_⟩) (by assumption) ?_; rotate_left 1; (focus (intro w hSw; (try dsimp only at hSw); simp only [List.getElem_toArray, List.getElem_cons_succ, List.getElem_cons_zero]; all_goals go_simp; all_goals (try with_reducible rfl))); (try simp only [Act.put, List.getElem_toArray, List.getElem_cons_succ, List.getElem_cons_zero, List.setIfInBounds_toArray, List.set_cons_zero, List.set_cons_succ])
    refine wpAnyH_ready (rs := [9]) (by kernel_rfl) (by simp) ?_; refine AllReadyH.cons (by rfl) (fun K hK => ?_) AllReadyH.nil; rw [if_pos (by kernel_rfl)]; simp only [List.getElem_toArray, List.getElem_cons_succ, List.getElem_cons_zero]
    go_wp2_with fail
    refine hK.out _ _ (HSO.out _ ((Below.refl _ _).alloc (Nat.le_refl _) _)) (fun hHeld => ?_); clear hK; (try simp only [Act.put, List.getElem_toArray, List.getElem_cons_succ, List.getElem_cons_zero, List.setIfInBounds_toArray, List.set_cons_zero, List.set_cons_succ])
    clear hHeld
    refine wpAnyH_done (by kernel_rfl) ?_ _; refine NoPanic.normal ?_
    generalize hw7 : World.alloc wD _ = w7
    have HB7 : Hid (Below wD.heap.size wD w7) := Lib.hid (by rw [← hw7]; exact (Below.refl _ _).alloc (Nat.le_refl _) _); have HC7 : Hid (w7.cell? ⟨wD.heap.size, 0, none⟩ = some (.int .i64 (q : Int)) ∧ w7.cell? ⟨wD.heap.size, 1, none⟩ = some (.int .i64 k2)) := Lib.hid (by rw [← hw7]; simp); clear hw7; have HK7 := Lib.hid (HKD.out.below HB7.out); have HW7 := Lib.hid ((HWD.out.below HB7.out).below (Below.refl _ _).drew); have HA9 := Lib.hid (fun n => ((HWD.out.below HB7.out).below (below_drewN (Below.refl _ _) n)).kk.ar); obtain ⟨c0, c1⟩ := HC7.out; have q2 := HK7.out.c2; have f0 := HW7.out.kk.f0; have f9 := (HWD.out.below HB7.out).kk.f0; clear HC7; have hk2 : (k2 != k2) = false := (by simp); go_wp2_with fail; go_quiet ((go_at_call 63; exact kquiet_left (athere_in q (by omega) true (Lib.hid (thN_at hq)) _ (HA9.out _)))); go_wp2_with fail; go_ret; exact ⟨rfl, (HB3.out.trans (HBD.out.mono HB3.out.size)).trans ((below_drewN HB7.out _).mono (Nat.le_trans HB3.out.size HBD.out.size))⟩
end Go.Proofs.YtncopdhhchmpeaaGreatDoor
namespace Go.Proofs.YtncopdhhchmpeaaGreatDoor
open Go.ChangeShapes Go.WideShapes Go.ChangeAt Go.RowKit
set_option linter.unusedVariables false
set_option linter.unusedSimpArgs false
/-- The keys' cells of these places. -/
def okc (k0 : Int) (V : Nat → Int) (ids : List Nat) : List Value := ids.flatMap (fun (i : Nat) => [.int .i64 k0, .int .i64 (i : Int), .int .i64 (V i), .int .i64 0, .int .u32 0])
/-- The places below n that are there and whose title names q. -/
def oks (T : Nat → Bool) (o : Nat → Int) (q : Nat) (n : Nat) : List Nat := (List.range n).filter (fun i => T i && (o i == (q : Int)))
theorem oks_zero (T : Nat → Bool) (o : Nat → Int) (q : Nat) : oks T o q 0 = [] := rfl
theorem oks_yes (T : Nat → Bool) (o : Nat → Int) (q n : Nat) (h : T n = true) (h2 : o n = (q : Int)) : oks T o q (n + 1) = oks T o q n ++ [n] := by
  unfold oks; rw [List.range_succ, List.filter_append]; simp [h, h2]
theorem oks_dead (T : Nat → Bool) (o : Nat → Int) (q n : Nat) (h : T n = false) : oks T o q (n + 1) = oks T o q n := by
  unfold oks; rw [List.range_succ, List.filter_append]; simp [h]
theorem oks_no (T : Nat → Bool) (o : Nat → Int) (q n : Nat) (h2 : ¬ o n = (q : Int)) : oks T o q (n + 1) = oks T o q n := by
  unfold oks; rw [List.range_succ, List.filter_append]; simp [h2]
theorem oks_len (T : Nat → Bool) (o : Nat → Int) (q n : Nat) : (oks T o q n).length ≤ n := by
  have := List.length_filter_le (fun i => T i && (o i == (q : Int))) (List.range n)
  simpa [oks] using this
theorem okc_snoc (k0 : Int) (V : Nat → Int) (l : List Nat) (i : Nat) : okc k0 V (l ++ [i]) = okc k0 V l ++ [.int .i64 k0, .int .i64 (i : Int), .int .i64 (V i), .int .i64 0, .int .u32 0] := by
  simp [okc]
theorem ok5_at {w : World} {T : TypeId} {y0 y1 y2 y3 y4 : Int} : ∀ j u, [Value.int .i64 y0, .int .i64 y1, .int .i64 y2, .int .i64 y3, .int .u32 y4][j]? = some u → (w.alloc (.cells #[.int .i64 y0, .int .i64 y1, .int .i64 y2, .int .i64 y3, .int .u32 y4] T (0, 0))).cell? (Addr.add ⟨w.heap.size, 0, none⟩ j) = some u := by
  intro j u hj
  have e : Addr.add ⟨w.heap.size, 0, none⟩ j = ⟨w.heap.size, j, none⟩ := by unfold Addr.add; split <;> simp_all
  rw [e]
  match j, hj with
  | 0, hj | 1, hj | 2, hj | 3, hj | 4, hj => simp at hj; subst hj; simp
  | j + 5, hj => simp at hj
theorem ok5_one (y0 y1 y2 y3 y4 : Int) : ∀ u ∈ [Value.int .i64 y0, .int .i64 y1, .int .i64 y2, .int .i64 y3, .int .u32 y4], u.oneCell' = true := by
  intro u hu
  simp only [List.mem_cons, List.not_mem_nil, or_false] at hu
  rcases hu with rfl | rfl | rfl | rfl | rfl <;> rfl
/-- Owned at work: its boxes, and the row behind them. -/
structure OwS (M w : World) (P bb ib ob : Nat) (q : Nat) (v : Value) (m : Nat) (xs : List Value) : Prop where
  bel : Below M.heap.size M w
  nb : M.heap.size ≤ bb ∧ M.heap.size ≤ ib ∧ M.heap.size ≤ ob ∧ bb < ob ∧ ib < ob
  lt : ob < w.heap.size
  b0 : w.cell? ⟨bb, 0, none⟩ = some (.pointer (some ⟨P, 0, none⟩))
  i0 : w.cell? ⟨ib, 0, none⟩ = some (.int .i64 (q : Int))
  o0 : w.cell? ⟨ob, 0, none⟩ = some v
  fr : w.frozen? ⟨ob, 0, none⟩ = false
  row : w.ownsRow (ob + 1) 42 5 v m xs
section
variable {M w w' : World} {P bb ib ob q m : Nat} {v : Value} {xs : List Value}
theorem OwS.below (h : OwS M w P bb ib ob q v m xs) (hb : Below w.heap.size w w') : OwS M w' P bb ib ob q v m xs :=
  ⟨h.bel.trans (hb.mono h.bel.size), h.nb, Nat.lt_of_lt_of_le h.lt hb.size, (hb.cell (p := ⟨bb, 0, none⟩) (Nat.lt_trans h.nb.2.2.2.1 h.lt)).trans h.b0, (hb.cell (p := ⟨ib, 0, none⟩) (Nat.lt_trans h.nb.2.2.2.2 h.lt)).trans h.i0, (hb.cell (p := ⟨ob, 0, none⟩) h.lt).trans h.o0, (World.frozen?_of_block (a := ⟨ob, 0, none⟩) (hb.block ob h.lt)).trans h.fr,
    row_same' h.row (fun g hg => hb.block g (h.row.lt g hg).2)⟩
/-- Grown by one row, but not yet stored. -/
structure OwG (M w : World) (P bb ib ob : Nat) (q : Nat) (v : Value) (m : Nat) (xs : List Value) (u : Value) : Prop where
  bel : Below M.heap.size M w
  nb : M.heap.size ≤ bb ∧ M.heap.size ≤ ib ∧ M.heap.size ≤ ob ∧ bb < ob ∧ ib < ob
  lt : ob < w.heap.size
  b0 : w.cell? ⟨bb, 0, none⟩ = some (.pointer (some ⟨P, 0, none⟩))
  i0 : w.cell? ⟨ib, 0, none⟩ = some (.int .i64 (q : Int))
  o0 : w.cell? ⟨ob, 0, none⟩ = some u
  fr : w.frozen? ⟨ob, 0, none⟩ = false
  row : w.ownsRow (ob + 1) 42 5 v m xs
theorem OwS.grown {v' : Value} {m' : Nat} {xs' : List Value} (h : OwS M w P bb ib ob q v m xs) (hg : w.grownBy w' v.ownBlock) (hr : w'.ownsRow (ob + 1) 42 5 v' m' xs') : OwG M w' P bb ib ob q v' m' xs' v := by
  have hn : ∀ k, k ≤ ob → some k ≠ v.ownBlock := fun k hk e => by have := (h.row.lt k e.symm).1; omega
  have hk : ∀ k, k ≤ ob → w'.heap[k]? = w.heap[k]? := fun k hk => hg.block k (Nat.lt_of_le_of_lt hk h.lt) (hn k hk)
  have hnb := h.nb
  refine ⟨h.bel.grown hg h.bel.size (fun g hg' => by have := (h.row.lt g hg').1; omega), h.nb, Nat.lt_of_lt_of_le h.lt hg.size, ?_, ?_, ?_, ?_, hr⟩
  · exact (World.cell?_of_block (a := ⟨bb, 0, none⟩) (hk bb (by omega))).trans h.b0
  · exact (World.cell?_of_block (a := ⟨ib, 0, none⟩) (hk ib (by omega))).trans h.i0
  · exact (World.cell?_of_block (a := ⟨ob, 0, none⟩) (hk ob (by omega))).trans h.o0
  · exact (World.frozen?_of_block (a := ⟨ob, 0, none⟩) (hk ob (by omega))).trans h.fr
theorem OwG.put {u : Value} (h : OwG M w P bb ib ob q v m xs u) : OwS M (w.setCell ⟨ob, 0, none⟩ v) P bb ib ob q v m xs := by
  have hnb := h.nb
  refine ⟨h.bel.setCell (by show M.heap.size ≤ ob; omega) _, h.nb, by simpa using h.lt, ?_, ?_, ?_, ?_, ?_⟩
  · rw [World.cell?_setCell_far _ _ _ _ (by show ob ≠ bb; omega)]; exact h.b0
  · rw [World.cell?_setCell_far _ _ _ _ (by show ob ≠ ib; omega)]; exact h.i0
  · exact World.cell?_setCell_same _ _ _ h.o0
  · rw [World.frozen?_setCell]; exact h.fr
  · exact row_same' h.row (fun g hg => Below.heap_setCell _ _ _ _ (by have := (h.row.lt g hg).1; show g ≠ ob; omega))
end
theorem infoKeyO : (Tryz.prog.info? 42).map (fun i => (i.zero, i.size, i.bytes)) = some (some (.agg #[.int .i64 0, .int .i64 0, .int .i64 0, .int .i64 0, .int .u32 0]), 5, 40) := by kernel_rfl

set_option maxRecDepth 100000 in
set_option maxHeartbeats 2000000 in
theorem badd_page {w0 : World} {L : BLoc} {D : BSt} (M : World) (bb ib ob q n m0 : Nat) (xs0 : List Value) (o vv : Nat → Int) (T : Nat → Bool) (V : Nat → Int) (hn : n ≤ 256) (hm0 : m0 ≤ 1000)
    (hlive : Hid (∀ i, i < n → T i = true → liveK L D 3 (i : Int) (V i) = true))
    (htit : Hid (∀ W, BW w0 W L D → ∀ i, i < n → TiAt W L 3 L.G2 i (o i) (vv i)))
    (how : Hid (∀ i, i < n → T i = true → ∃ q' : Nat, q' < D.nb ∧ o i = (q' : Int) ∧ vv i = V i))
    (hyes : Hid (∀ i, i < n → T i = true → ∀ W, BW w0 W L D → True → Calls Tryz.prog 54 #[.pointer (some ⟨L.S, 0, none⟩), .int .i64 (i : Int)] W fun e w' => e = .returned (.agg #[.int .i64 3, .int .i64 (i : Int), .int .i64 (V i), .int .i64 0, .int .u32 0]) ∧ Below W.heap.size W w'))
    (hno : Hid (∀ i, i < n → T i = false → ∀ W, BW w0 W L D → True → Calls Tryz.prog 54 #[.pointer (some ⟨L.S, 0, none⟩), .int .i64 (i : Int)] W fun e w' => e = .returned (Value.agg #[.int .i64 0, .int .i64 0, .int .i64 0, .int .i64 0, .int .u32 0]) ∧ Below W.heap.size W w'))
    (hM : BW w0 M L D) (w : World) (v0 : Value) (h : OwS M w L.P bb ib ob q v0 m0 xs0) :
    Calls Tryz.prog 105 #[.int .i64 (n : Int), .func (.func 54) #[.pointer (some ⟨L.S, 0, none⟩)] #[], .pointer (some ⟨bb, 0, none⟩), .pointer (some ⟨ib, 0, none⟩), .pointer (some ⟨ob, 0, none⟩)] w fun e w' => e = .returned (.tuple #[]) ∧ ∃ v, OwS M w' L.P bb ib ob q v (m0 + (oks T o q n).length) (xs0 ++ okc 3 V (oks T o q n)) := by
  have H := Lib.hid h
  have HM := Lib.hid hM
  obtain ⟨i0, hi, hz0, hz1, hz2⟩ := info_parts infoKeyO
  have HI := Lib.hid (⟨hi, hz0, hz1, hz2⟩ : Tryz.prog.info? 42 = some i0 ∧ i0.zero = some (.agg #[.int .i64 0, .int .i64 0, .int .i64 0, .int .i64 0, .int .u32 0]) ∧ i0.size = 5 ∧ i0.bytes = 40)
  clear h hM hi hz0 hz1 hz2
  go_enter Tryz.func105, Tryz.ntmps105
  go_wp2_with fail
  go_loopw [10] (fun x wr => ∃ (i : Nat) (v : Value), i ≤ n ∧ x = .int .i64 (i : Int) ∧ OwS M wr L.P bb ib ob q v (m0 + (oks T o q i).length) (xs0 ++ okc 3 V (oks T o q i))) (fun x _ => n - (intOf x).toNat)
  case atStart => exact ⟨0, v0, Nat.zero_le _, rfl, by simpa [oks_zero, okc] using H.out⟩
  case round =>
    obtain ⟨i, v, hin, rfl, hO⟩ := hrel
    have HO := Lib.hid hO
    have HW := Lib.hid (HM.out.below hO.bel)
    clear hO
    have g0 : (0 : Int) ≤ i := by omega
    have hle := oks_len T o q i
    obtain ⟨m, hm⟩ : ∃ m, Hid (m = m0 + (oks T o q i).length) := ⟨_, Lib.hid rfl⟩
    obtain ⟨xs, hxs⟩ : ∃ xs, Hid (xs = xs0 ++ okc 3 V (oks T o q i)) := ⟨_, Lib.hid rfl⟩
    rw [← hm.out, ← hxs.out] at HO
    have hmb : m ≤ 1256 := by have := hm.out; omega
    clear hle
    by_cases hlt : i < n
    · by_cases hT : T i = true
      · obtain ⟨q', hq', ho', hv'⟩ := how.out i hlt hT
        have HLv := Lib.hid (hlive.out i hlt hT)
        have HC := Lib.hid (hyes.out i hlt hT)
        obtain ⟨vi, hvi⟩ : ∃ vi, Hid (V i = vi) := ⟨_, Lib.hid rfl⟩
        have HTt := Lib.hid (fun W hW => by have := htit.out W hW i hlt; rw [ho', hv', hvi.out] at this; exact this)
        rw [hvi.out] at HLv HC
        have HT := Lib.hid hT
        have Ho := Lib.hid ho'
        have i256 : i < 256 := by omega
        clear hT ho' hv'
        go_upto_region 4 with (first
          | (go_at_call 54; (with_reducible refine (HC.out _ HW.out trivial).mono ?_); rintro e w1 ⟨rfl, hb⟩; have HB1 := Lib.hid hb; clear hb))
        obtain ⟨kb, hkb⟩ : ∃ kb, kb = w1.heap.size := ⟨_, rfl⟩
        generalize hw2 : World.alloc w1 _ = w2
        have HB2 : Hid (Below w1.heap.size w1 w2) := Lib.hid (by rw [← hw2]; exact (Below.refl _ _).alloc (Nat.le_refl _) _)
        have HK2 : Hid (KeyC w2 kb 3 (i : Int) vi 0 0) := Lib.hid (by rw [← hw2, hkb]; exact KeyC.new w1 3 (i : Int) vi 0 0 _)
        rw [← hkb]
        clear hw2 hkb
        obtain ⟨wD, hwD⟩ : ∃ wD, wD = w2.drew := ⟨_, rfl⟩
        have HBD : Hid (Below wr.heap.size wr wD) := Lib.hid (by rw [hwD]; exact (HB1.out.trans (HB2.out.mono HB1.out.size)).drew)
        have HKD : Hid (KeyC wD kb 3 (i : Int) vi 0 0) := Lib.hid (by rw [hwD]; exact HK2.out.below (Below.refl _ _).drew)
        have HOD := Lib.hid (HO.out.below HBD.out)
        have HWD := Lib.hid (HW.out.below HBD.out)
        have HS : Hid (∀ W, Below wD.heap.size wD W → ((World.cell? W ⟨kb, 0, none⟩ = some (.int .i64 3) ∧ World.cell? W ⟨kb, 1, none⟩ = some (.int .i64 (i : Int)) ∧ World.cell? W ⟨kb, 2, none⟩ = some (.int .i64 vi) ∧ World.cell? W ⟨kb, 3, none⟩ = some (.int .i64 0) ∧ World.cell? W ⟨kb, 4, none⟩ = some (.int .u32 0)) ∧ World.cell? W ⟨bb, 0, none⟩ = some (.pointer (some ⟨L.P, 0, none⟩)) ∧ World.cell? W ⟨ib, 0, none⟩ = some (.int .i64 (q : Int)))) := Lib.hid (fun W hb => ⟨(HKD.out.below hb).k5, (HOD.out.below hb).b0, (HOD.out.below hb).i0⟩)
        refine wp_region_noPanic ?_
        refine wp_region_held_drew (S := fun w' => ((World.cell? w' ⟨kb, 0, none⟩ = some (.int .i64 3) ∧ World.cell? w' ⟨kb, 1, none⟩ = some (.int .i64 (i : Int)) ∧ World.cell? w' ⟨kb, 2, none⟩ = some (.int .i64 vi) ∧ World.cell? w' ⟨kb, 3, none⟩ = some (.int .i64 0) ∧ World.cell? w' ⟨kb, 4, none⟩ = some (.int .u32 0)) ∧ World.cell? w' ⟨bb, 0, none⟩ = some (.pointer (some ⟨L.P, 0, none⟩)) ∧ World.cell? w' ⟨ib, 0, none⟩ = some (.int .i64 (q : Int)))) (by kernel_rfl) (by rw [← hwD]; exact HS.out _ (Below.refl _ _)) (fun hHeld => ?_)
        rw [← hwD] at hHeld ⊢
        clear hwD
        refine wpAnyH_take (i := 0) (v := ?_) (by rfl) (by kernel_rfl) (by kernel_rfl) (by kernel_rfl) (fun _ _ _ h => h) (Or.inl ⟨by kernel_rfl, ?_⟩) (by assumption) ?_; rotate_left 1; (focus (intro w hSw; (try dsimp only at hSw); simp only [List.getElem_toArray, List.getElem_cons_succ, List.getElem_cons_zero]; all_goals go_simp; all_goals (try with_reducible rfl))); (try simp only [Act.put, List.getElem_toArray, List.getElem_cons_succ, List.getElem_cons_zero, List.setIfInBounds_toArray, List.set_cons_zero, List.set_cons_succ])
        refine wpAnyH_take (i := 1) (v := ?_) (by rfl) (by kernel_rfl) (by kernel_rfl) (by kernel_rfl) (fun _ _ _ h => h) (Or.inl ⟨by kernel_rfl, ?_⟩) (by assumption) ?_; rotate_left 1; (focus (intro w hSw; (try dsimp only at hSw); simp only [List.getElem_toArray, List.getElem_cons_succ, List.getElem_cons_zero]; all_goals go_simp; all_goals (try with_reducible rfl))); (try simp only [Act.put, List.getElem_toArray, List.getElem_cons_succ, List.getElem_cons_zero, List.setIfInBounds_toArray, List.set_cons_zero, List.set_cons_succ])
        refine wpAnyH_take (i := 2) (v := ?_) (by rfl) (by kernel_rfl) (by kernel_rfl) (by kernel_rfl) (fun _ _ _ h => h) (Or.inl ⟨by kernel_rfl, ?_⟩) (by assumption) ?_; rotate_left 1; (focus (intro w hSw; (try dsimp only at hSw); simp only [List.getElem_toArray, List.getElem_cons_succ, List.getElem_cons_zero]; all_goals go_simp; all_goals (try with_reducible rfl))); (try simp only [Act.put, List.getElem_toArray, List.getElem_cons_succ, List.getElem_cons_zero, List.setIfInBounds_toArray, List.set_cons_zero, List.set_cons_succ])
        refine wpAnyH_take (i := 3) (v := ?_) (by rfl) (by kernel_rfl) (by kernel_rfl) (by kernel_rfl) (fun _ _ _ h => h) (Or.inl ⟨by kernel_rfl, ?_⟩) (by assumption) ?_; rotate_left 1; (focus (intro w hSw; (try dsimp only at hSw); simp only [List.getElem_toArray, List.getElem_cons_succ, List.getElem_cons_zero]; all_goals go_simp; all_goals (try with_reducible rfl))); (try simp only [Act.put, List.getElem_toArray, List.getElem_cons_succ, List.getElem_cons_zero, List.setIfInBounds_toArray, List.set_cons_zero, List.set_cons_succ])
        refine wpAnyH_take (i := 4) (v := ?_) (by rfl) (by kernel_rfl) (by kernel_rfl) (by kernel_rfl) (fun _ _ _ h => h) (Or.inl ⟨by kernel_rfl, ?_⟩) (by assumption) ?_; rotate_left 1; (focus (intro w hSw; (try dsimp only at hSw); simp only [List.getElem_toArray, List.getElem_cons_succ, List.getElem_cons_zero]; all_goals go_simp; all_goals (try with_reducible rfl))); (try simp only [Act.put, List.getElem_toArray, List.getElem_cons_succ, List.getElem_cons_zero, List.setIfInBounds_toArray, List.set_cons_zero, List.set_cons_succ])
        refine wpAnyH_take (i := 5) (v := ?_) (by rfl) (by kernel_rfl) (by kernel_rfl) (by kernel_rfl) (fun _ _ _ h => h) (Or.inl ⟨by kernel_rfl, ?_⟩) (by assumption) ?_; rotate_left 1; (focus (intro w hSw; (try dsimp only at hSw); simp only [List.getElem_toArray, List.getElem_cons_succ, List.getElem_cons_zero]; all_goals go_simp; all_goals (try with_reducible rfl))); (try simp only [Act.put, List.getElem_toArray, List.getElem_cons_succ, List.getElem_cons_zero, List.setIfInBounds_toArray, List.set_cons_zero, List.set_cons_succ])
        refine wpAnyH_take (i := 7) (v := ?_) (by rfl) (by kernel_rfl) (by kernel_rfl) (by kernel_rfl) (fun _ _ _ h => h) (Or.inl ⟨by kernel_rfl, ?_⟩) (by assumption) ?_; rotate_left 1; (focus (intro w hSw; (try dsimp only at hSw); simp only [List.getElem_toArray, List.getElem_cons_succ, List.getElem_cons_zero]; all_goals go_simp; all_goals (try with_reducible rfl))); (try simp only [Act.put, List.getElem_toArray, List.getElem_cons_succ, List.getElem_cons_zero, List.setIfInBounds_toArray, List.set_cons_zero, List.set_cons_succ])
        refine wpAnyH_ready (rs := [6]) (by kernel_rfl) (by simp) ?_; refine AllReadyH.cons (by rfl) (fun K hK => ?_) AllReadyH.nil; rw [if_pos (by kernel_rfl)]; simp only [List.getElem_toArray, List.getElem_cons_succ, List.getElem_cons_zero]
        go_wp2_with (first
          | (go_at_call 79; (with_reducible refine (bowner_live 3 i vi 0 0 L.G2 q' i256 hq' HLv _ HWD.out (HTt.out _ HWD.out)).mono ?_); rintro e w3 ⟨rfl, hb⟩; have HB3 := Lib.hid hb; clear hb))
        refine hK.out _ _ (HS.out _ HB3.out) (fun hHeld => ?_)
        clear hK K
        (try simp only [Act.put, List.getElem_toArray, List.getElem_cons_succ, List.getElem_cons_zero, List.setIfInBounds_toArray, List.set_cons_zero, List.set_cons_succ])
        have HO3 := Lib.hid (HOD.out.below HB3.out)
        have HK3 := Lib.hid (HKD.out.below HB3.out)
        have r0 := HK3.out.c0
        have r1 := HK3.out.c1
        have r2 := HK3.out.c2
        have r3 := HK3.out.c3
        have r4 := HK3.out.c4
        have z0 := HO3.out.o0
        have zf := HO3.out.fr
        by_cases heq : (q' : Int) = (q : Int)
        · have te : ((q' : Int) == (q : Int)) = true := by simpa using heq
          have HE := Lib.hid heq
          clear heq
          refine wpAnyH_take (i := 8) (v := ?_) (by rfl) (by kernel_rfl) (by kernel_rfl) (by kernel_rfl) (fun _ _ _ h => h) (Or.inl ⟨by kernel_rfl, ?_⟩) (by assumption) ?_; rotate_left 1; (focus (intro w hSw; (try dsimp only at hSw); simp only [List.getElem_toArray, List.getElem_cons_succ, List.getElem_cons_zero]; all_goals go_simp; all_goals (try with_reducible rfl))); (try simp only [Act.put, List.getElem_toArray, List.getElem_cons_succ, List.getElem_cons_zero, List.setIfInBounds_toArray, List.set_cons_zero, List.set_cons_succ])
          refine wpAnyH_take (i := 9) (v := ?_) (by rfl) (by kernel_rfl) (by kernel_rfl) (by kernel_rfl) (fun _ _ _ h => h) (Or.inl ⟨by kernel_rfl, ?_⟩) (by assumption) ?_; rotate_left 1; (focus (intro w hSw; (try dsimp only at hSw); simp only [List.getElem_toArray, List.getElem_cons_succ, List.getElem_cons_zero]; all_goals go_simp; all_goals (try with_reducible rfl))); (try simp only [Act.put, List.getElem_toArray, List.getElem_cons_succ, List.getElem_cons_zero, List.setIfInBounds_toArray, List.set_cons_zero, List.set_cons_succ])
          refine wpAnyH_done (by kernel_rfl) ?_ _
          refine NoPanic.normal ?_
          clear hHeld
          obtain ⟨va, vc, hva⟩ := own_shape' HO3.out.row
          subst hva
          have HO4 := Lib.hid (fun X => HO3.out.below ((Below.refl _ _).alloc (Nat.le_refl _) _ : Below w3.heap.size w3 (w3.alloc X)))
          go_wp2_with (first
            | (at_builtin; refine wpList_append_own _ rfl _ _ 73 rfl (ob + 1) 42 i0 (.agg #[.int .i64 0, .int .i64 0, .int .i64 0, .int .i64 0, .int .u32 0]) 5 40 Tryz.underlying73 HI.out.1 HI.out.2.1 HI.out.2.2.1 HI.out.2.2.2 rfl (by decide) _ _ _ rfl (HO4.out _).row ⟨w3.heap.size, 0, none⟩ 1 1 [.int .i64 3, .int .i64 (i : Int), .int .i64 vi, .int .i64 0, .int .u32 0] rfl rfl ok5_at (ok5_one _ _ _ _ _) (by unfold maxLen; omega) (by omega) (by have := HO3.out.lt; simp; omega) ?_; intro v' w5 hown hgrow _; obtain ⟨vb, vd, hvb⟩ := own_shape' hown; subst hvb; have HG5 := Lib.hid ((HO4.out _).grown hgrow hown); clear hown hgrow; have y0 := HG5.out.o0; have yf := HG5.out.fr))
          have HS5 := Lib.hid HG5.out.put
          go_roundw
          case rel => exact ⟨i + 1, _, by omega, by go_num, by rw [oks_yes T o q i HT.out (by rw [Ho.out, HE.out]), okc_snoc, ← List.append_assoc, ← hxs.out, List.length_append, ← Nat.add_assoc, ← hm.out, hvi.out]; exact HS5.out⟩
          case measure => simp [intOf]; omega
        · have te : ((q' : Int) == (q : Int)) = false := by simpa using heq
          have HE := Lib.hid heq
          clear heq
          refine wpAnyH_take (i := 8) (v := ?_) (by rfl) (by kernel_rfl) (by kernel_rfl) (by kernel_rfl) (fun _ _ _ h => h) (Or.inl ⟨by kernel_rfl, ?_⟩) (by assumption) ?_; rotate_left 1; (focus (intro w hSw; (try dsimp only at hSw); simp only [List.getElem_toArray, List.getElem_cons_succ, List.getElem_cons_zero]; all_goals go_simp; all_goals (try with_reducible rfl))); (try simp only [Act.put, List.getElem_toArray, List.getElem_cons_succ, List.getElem_cons_zero, List.setIfInBounds_toArray, List.set_cons_zero, List.set_cons_succ])
          refine wpAnyH_take (i := 9) (v := ?_) (by rfl) (by kernel_rfl) (by kernel_rfl) (by kernel_rfl) (fun _ _ _ h => h) (Or.inl ⟨by kernel_rfl, ?_⟩) (by assumption) ?_; rotate_left 1; (focus (intro w hSw; (try dsimp only at hSw); simp only [List.getElem_toArray, List.getElem_cons_succ, List.getElem_cons_zero]; all_goals go_simp; all_goals (try with_reducible rfl))); (try simp only [Act.put, List.getElem_toArray, List.getElem_cons_succ, List.getElem_cons_zero, List.setIfInBounds_toArray, List.set_cons_zero, List.set_cons_succ])
          refine wpAnyH_done (by kernel_rfl) ?_ _
          refine NoPanic.normal ?_
          clear hHeld
          go_wp2_with fail
          go_roundw
          case rel => exact ⟨i + 1, v, by omega, by go_num, by rw [oks_no T o q i (by rw [Ho.out]; exact HE.out), ← hm.out, ← hxs.out]; exact HO3.out⟩
          case measure => simp [intOf]; omega
      · have hT' : T i = false := by simpa using hT
        have HC := Lib.hid (hno.out i hlt hT')
        have HT := Lib.hid hT'
        clear hT hT'
        go_upto_region 4 with (first
          | (go_at_call 54; (with_reducible refine (HC.out _ HW.out trivial).mono ?_); rintro e w1 ⟨rfl, hb⟩; have HB1 := Lib.hid hb; clear hb))
        obtain ⟨kb, hkb⟩ : ∃ kb, kb = w1.heap.size := ⟨_, rfl⟩
        generalize hw2 : World.alloc w1 _ = w2
        have HB2 : Hid (Below w1.heap.size w1 w2) := Lib.hid (by rw [← hw2]; exact (Below.refl _ _).alloc (Nat.le_refl _) _)
        have HK2 : Hid (KeyC w2 kb 0 0 0 0 0) := Lib.hid (by rw [← hw2, hkb]; exact KeyC.new w1 0 0 0 0 0 _)
        rw [← hkb]
        clear hw2 hkb
        obtain ⟨wD, hwD⟩ : ∃ wD, wD = w2.drew := ⟨_, rfl⟩
        have HBD : Hid (Below wr.heap.size wr wD) := Lib.hid (by rw [hwD]; exact (HB1.out.trans (HB2.out.mono HB1.out.size)).drew)
        have HKD : Hid (KeyC wD kb 0 0 0 0 0) := Lib.hid (by rw [hwD]; exact HK2.out.below (Below.refl _ _).drew)
        have HOD := Lib.hid (HO.out.below HBD.out)
        refine wp_region_noPanic ?_
        refine wp_region_held_drew (S := fun w' => World.cell? w' ⟨kb, 0, none⟩ = some (.int .i64 0)) (by kernel_rfl) (by rw [← hwD]; exact HKD.out.c0) (fun hHeld => ?_)
        rw [← hwD] at hHeld ⊢
        clear hwD
        refine wpAnyH_take (i := 0) (v := ?_) (by rfl) (by kernel_rfl) (by kernel_rfl) (by kernel_rfl) (fun _ _ _ h => h) (Or.inl ⟨by kernel_rfl, ?_⟩) (by assumption) ?_; rotate_left 1; (focus (intro w hSw; (try dsimp only at hSw); simp only [List.getElem_toArray, List.getElem_cons_succ, List.getElem_cons_zero]; all_goals go_simp; all_goals (try with_reducible rfl))); (try simp only [Act.put, List.getElem_toArray, List.getElem_cons_succ, List.getElem_cons_zero, List.setIfInBounds_toArray, List.set_cons_zero, List.set_cons_succ])
        refine wpAnyH_take (i := 1) (v := ?_) (by rfl) (by kernel_rfl) (by kernel_rfl) (by kernel_rfl) (fun _ _ _ h => h) (Or.inl ⟨by kernel_rfl, ?_⟩) (by assumption) ?_; rotate_left 1; (focus (intro w hSw; (try dsimp only at hSw); simp only [List.getElem_toArray, List.getElem_cons_succ, List.getElem_cons_zero]; all_goals go_simp; all_goals (try with_reducible rfl))); (try simp only [Act.put, List.getElem_toArray, List.getElem_cons_succ, List.getElem_cons_zero, List.setIfInBounds_toArray, List.set_cons_zero, List.set_cons_succ])
        refine wpAnyH_take (i := 2) (v := ?_) (by rfl) (by kernel_rfl) (by kernel_rfl) (by kernel_rfl) (fun _ _ _ h => h) (Or.inl ⟨by kernel_rfl, ?_⟩) (by assumption) ?_; rotate_left 1; (focus (intro w hSw; (try dsimp only at hSw); simp only [List.getElem_toArray, List.getElem_cons_succ, List.getElem_cons_zero]; all_goals go_simp; all_goals (try with_reducible rfl))); (try simp only [Act.put, List.getElem_toArray, List.getElem_cons_succ, List.getElem_cons_zero, List.setIfInBounds_toArray, List.set_cons_zero, List.set_cons_succ])
        refine wpAnyH_take (i := 3) (v := ?_) (by rfl) (by kernel_rfl) (by kernel_rfl) (by kernel_rfl) (fun _ _ _ h => h) (Or.inl ⟨by kernel_rfl, ?_⟩) (by assumption) ?_; rotate_left 1; (focus (intro w hSw; (try dsimp only at hSw); simp only [List.getElem_toArray, List.getElem_cons_succ, List.getElem_cons_zero]; all_goals go_simp; all_goals (try with_reducible rfl))); (try simp only [Act.put, List.getElem_toArray, List.getElem_cons_succ, List.getElem_cons_zero, List.setIfInBounds_toArray, List.set_cons_zero, List.set_cons_succ])
        refine wpAnyH_take (i := 4) (v := undef) (by rfl) (by kernel_rfl) (by kernel_rfl) (by kernel_rfl) (fun _ _ _ h => h) (Or.inr ⟨by kernel_rfl, rfl⟩) (by assumption) ?_; (try simp only [Act.put, List.getElem_toArray, List.getElem_cons_succ, List.getElem_cons_zero, List.setIfInBounds_toArray, List.set_cons_zero, List.set_cons_succ])
        refine wpAnyH_take (i := 5) (v := undef) (by rfl) (by kernel_rfl) (by kernel_rfl) (by kernel_rfl) (fun _ _ _ h => h) (Or.inr ⟨by kernel_rfl, rfl⟩) (by assumption) ?_; (try simp only [Act.put, List.getElem_toArray, List.getElem_cons_succ, List.getElem_cons_zero, List.setIfInBounds_toArray, List.set_cons_zero, List.set_cons_succ])
        refine wpAnyH_take (i := 6) (v := undef) (by rfl) (by kernel_rfl) (by kernel_rfl) (by kernel_rfl) (fun _ _ _ h => h) (Or.inr ⟨by kernel_rfl, rfl⟩) (by assumption) ?_; (try simp only [Act.put, List.getElem_toArray, List.getElem_cons_succ, List.getElem_cons_zero, List.setIfInBounds_toArray, List.set_cons_zero, List.set_cons_succ])
        refine wpAnyH_take (i := 7) (v := undef) (by rfl) (by kernel_rfl) (by kernel_rfl) (by kernel_rfl) (fun _ _ _ h => h) (Or.inr ⟨by kernel_rfl, rfl⟩) (by assumption) ?_; (try simp only [Act.put, List.getElem_toArray, List.getElem_cons_succ, List.getElem_cons_zero, List.setIfInBounds_toArray, List.set_cons_zero, List.set_cons_succ])
        refine wpAnyH_take (i := 8) (v := undef) (by rfl) (by kernel_rfl) (by kernel_rfl) (by kernel_rfl) (fun _ _ _ h => h) (Or.inr ⟨by kernel_rfl, rfl⟩) (by assumption) ?_; (try simp only [Act.put, List.getElem_toArray, List.getElem_cons_succ, List.getElem_cons_zero, List.setIfInBounds_toArray, List.set_cons_zero, List.set_cons_succ])
        refine wpAnyH_take (i := 9) (v := ?_) (by rfl) (by kernel_rfl) (by kernel_rfl) (by kernel_rfl) (fun _ _ _ h => h) (Or.inl ⟨by kernel_rfl, ?_⟩) (by assumption) ?_; rotate_left 1; (focus (intro w hSw; (try dsimp only at hSw); simp only [List.getElem_toArray, List.getElem_cons_succ, List.getElem_cons_zero]; all_goals go_simp; all_goals (try with_reducible rfl))); (try simp only [Act.put, List.getElem_toArray, List.getElem_cons_succ, List.getElem_cons_zero, List.setIfInBounds_toArray, List.set_cons_zero, List.set_cons_succ])
        refine wpAnyH_done (by kernel_rfl) ?_ _
        refine NoPanic.normal ?_
        clear hHeld
        go_wp2_with fail
        go_roundw
        case rel => exact ⟨i + 1, v, by omega, by go_num, by rw [oks_dead T o q i HT.out, ← hm.out, ← hxs.out]; exact HOD.out⟩
        case measure => simp [intOf]; omega
    · obtain ⟨rfl⟩ : i = n := (by omega)
      go_wp2_with fail
      go_end0
      exact ⟨rfl, v, by rw [← hm.out, ← hxs.out]; exact HO.out⟩

set_option maxRecDepth 100000 in
set_option maxHeartbeats 2000000 in
theorem badd_node {w0 : World} {L : BLoc} {D : BSt} (M : World) (bb ib ob q n m0 : Nat) (xs0 : List Value) (o vv : Nat → Int) (T : Nat → Bool) (V : Nat → Int) (hn : n ≤ 256) (hm0 : m0 ≤ 1000)
    (hlive : Hid (∀ i, i < n → T i = true → liveK L D 2 (i : Int) (V i) = true))
    (htit : Hid (∀ W, BW w0 W L D → ∀ i, i < n → TiAt W L 2 L.G1 i (o i) (vv i)))
    (how : Hid (∀ i, i < n → T i = true → ∃ q' : Nat, q' < D.nb ∧ o i = (q' : Int) ∧ vv i = V i))
    (hyes : Hid (∀ i, i < n → T i = true → ∀ W, BW w0 W L D → (W.cell? ⟨bb, 0, none⟩ = some (.pointer (some ⟨L.P, 0, none⟩)) ∧ bb < W.heap.size) → Calls Tryz.prog 107 #[.int .i64 (i : Int), .pointer (some ⟨bb, 0, none⟩)] W fun e w' => e = .returned (.agg #[.int .i64 2, .int .i64 (i : Int), .int .i64 (V i), .int .i64 0, .int .u32 0]) ∧ Below W.heap.size W w'))
    (hno : Hid (∀ i, i < n → T i = false → ∀ W, BW w0 W L D → (W.cell? ⟨bb, 0, none⟩ = some (.pointer (some ⟨L.P, 0, none⟩)) ∧ bb < W.heap.size) → Calls Tryz.prog 107 #[.int .i64 (i : Int), .pointer (some ⟨bb, 0, none⟩)] W fun e w' => e = .returned (Value.agg #[.int .i64 0, .int .i64 0, .int .i64 0, .int .i64 0, .int .u32 0]) ∧ Below W.heap.size W w'))
    (hM : BW w0 M L D) (w : World) (v0 : Value) (h : OwS M w L.P bb ib ob q v0 m0 xs0) :
    Calls Tryz.prog 105 #[.int .i64 (n : Int), .func (.func 107) #[] #[.pointer (some ⟨bb, 0, none⟩)], .pointer (some ⟨bb, 0, none⟩), .pointer (some ⟨ib, 0, none⟩), .pointer (some ⟨ob, 0, none⟩)] w fun e w' => e = .returned (.tuple #[]) ∧ ∃ v, OwS M w' L.P bb ib ob q v (m0 + (oks T o q n).length) (xs0 ++ okc 2 V (oks T o q n)) := by
  have H := Lib.hid h
  have HM := Lib.hid hM
  obtain ⟨i0, hi, hz0, hz1, hz2⟩ := info_parts infoKeyO
  have HI := Lib.hid (⟨hi, hz0, hz1, hz2⟩ : Tryz.prog.info? 42 = some i0 ∧ i0.zero = some (.agg #[.int .i64 0, .int .i64 0, .int .i64 0, .int .i64 0, .int .u32 0]) ∧ i0.size = 5 ∧ i0.bytes = 40)
  clear h hM hi hz0 hz1 hz2
  go_enter Tryz.func105, Tryz.ntmps105
  go_wp2_with fail
  go_loopw [10] (fun x wr => ∃ (i : Nat) (v : Value), i ≤ n ∧ x = .int .i64 (i : Int) ∧ OwS M wr L.P bb ib ob q v (m0 + (oks T o q i).length) (xs0 ++ okc 2 V (oks T o q i))) (fun x _ => n - (intOf x).toNat)
  case atStart => exact ⟨0, v0, Nat.zero_le _, rfl, by simpa [oks_zero, okc] using H.out⟩
  case round =>
    obtain ⟨i, v, hin, rfl, hO⟩ := hrel
    have HO := Lib.hid hO
    have HW := Lib.hid (HM.out.below hO.bel)
    clear hO
    have g0 : (0 : Int) ≤ i := by omega
    have hle := oks_len T o q i
    obtain ⟨m, hm⟩ : ∃ m, Hid (m = m0 + (oks T o q i).length) := ⟨_, Lib.hid rfl⟩
    obtain ⟨xs, hxs⟩ : ∃ xs, Hid (xs = xs0 ++ okc 2 V (oks T o q i)) := ⟨_, Lib.hid rfl⟩
    rw [← hm.out, ← hxs.out] at HO
    have hmb : m ≤ 1256 := by have := hm.out; omega
    clear hle
    by_cases hlt : i < n
    · by_cases hT : T i = true
      · obtain ⟨q', hq', ho', hv'⟩ := how.out i hlt hT
        have HLv := Lib.hid (hlive.out i hlt hT)
        have HC := Lib.hid (hyes.out i hlt hT)
        obtain ⟨vi, hvi⟩ : ∃ vi, Hid (V i = vi) := ⟨_, Lib.hid rfl⟩
        have HTt := Lib.hid (fun W hW => by have := htit.out W hW i hlt; rw [ho', hv', hvi.out] at this; exact this)
        rw [hvi.out] at HLv HC
        have HT := Lib.hid hT
        have Ho := Lib.hid ho'
        have i256 : i < 256 := by omega
        clear hT ho' hv'
        go_upto_region 4 with (first
          | (go_at_call 107; (with_reducible refine (HC.out _ HW.out ⟨HO.out.b0, Nat.lt_trans HO.out.nb.2.2.2.1 HO.out.lt⟩).mono ?_); rintro e w1 ⟨rfl, hb⟩; have HB1 := Lib.hid hb; clear hb))
        obtain ⟨kb, hkb⟩ : ∃ kb, kb = w1.heap.size := ⟨_, rfl⟩
        generalize hw2 : World.alloc w1 _ = w2
        have HB2 : Hid (Below w1.heap.size w1 w2) := Lib.hid (by rw [← hw2]; exact (Below.refl _ _).alloc (Nat.le_refl _) _)
        have HK2 : Hid (KeyC w2 kb 2 (i : Int) vi 0 0) := Lib.hid (by rw [← hw2, hkb]; exact KeyC.new w1 2 (i : Int) vi 0 0 _)
        rw [← hkb]
        clear hw2 hkb
        obtain ⟨wD, hwD⟩ : ∃ wD, wD = w2.drew := ⟨_, rfl⟩
        have HBD : Hid (Below wr.heap.size wr wD) := Lib.hid (by rw [hwD]; exact (HB1.out.trans (HB2.out.mono HB1.out.size)).drew)
        have HKD : Hid (KeyC wD kb 2 (i : Int) vi 0 0) := Lib.hid (by rw [hwD]; exact HK2.out.below (Below.refl _ _).drew)
        have HOD := Lib.hid (HO.out.below HBD.out)
        have HWD := Lib.hid (HW.out.below HBD.out)
        have HS : Hid (∀ W, Below wD.heap.size wD W → ((World.cell? W ⟨kb, 0, none⟩ = some (.int .i64 2) ∧ World.cell? W ⟨kb, 1, none⟩ = some (.int .i64 (i : Int)) ∧ World.cell? W ⟨kb, 2, none⟩ = some (.int .i64 vi) ∧ World.cell? W ⟨kb, 3, none⟩ = some (.int .i64 0) ∧ World.cell? W ⟨kb, 4, none⟩ = some (.int .u32 0)) ∧ World.cell? W ⟨bb, 0, none⟩ = some (.pointer (some ⟨L.P, 0, none⟩)) ∧ World.cell? W ⟨ib, 0, none⟩ = some (.int .i64 (q : Int)))) := Lib.hid (fun W hb => ⟨(HKD.out.below hb).k5, (HOD.out.below hb).b0, (HOD.out.below hb).i0⟩)
        refine wp_region_noPanic ?_
        refine wp_region_held_drew (S := fun w' => ((World.cell? w' ⟨kb, 0, none⟩ = some (.int .i64 2) ∧ World.cell? w' ⟨kb, 1, none⟩ = some (.int .i64 (i : Int)) ∧ World.cell? w' ⟨kb, 2, none⟩ = some (.int .i64 vi) ∧ World.cell? w' ⟨kb, 3, none⟩ = some (.int .i64 0) ∧ World.cell? w' ⟨kb, 4, none⟩ = some (.int .u32 0)) ∧ World.cell? w' ⟨bb, 0, none⟩ = some (.pointer (some ⟨L.P, 0, none⟩)) ∧ World.cell? w' ⟨ib, 0, none⟩ = some (.int .i64 (q : Int)))) (by kernel_rfl) (by rw [← hwD]; exact HS.out _ (Below.refl _ _)) (fun hHeld => ?_)
        rw [← hwD] at hHeld ⊢
        clear hwD
        refine wpAnyH_take (i := 0) (v := ?_) (by rfl) (by kernel_rfl) (by kernel_rfl) (by kernel_rfl) (fun _ _ _ h => h) (Or.inl ⟨by kernel_rfl, ?_⟩) (by assumption) ?_; rotate_left 1; (focus (intro w hSw; (try dsimp only at hSw); simp only [List.getElem_toArray, List.getElem_cons_succ, List.getElem_cons_zero]; all_goals go_simp; all_goals (try with_reducible rfl))); (try simp only [Act.put, List.getElem_toArray, List.getElem_cons_succ, List.getElem_cons_zero, List.setIfInBounds_toArray, List.set_cons_zero, List.set_cons_succ])
        refine wpAnyH_take (i := 1) (v := ?_) (by rfl) (by kernel_rfl) (by kernel_rfl) (by kernel_rfl) (fun _ _ _ h => h) (Or.inl ⟨by kernel_rfl, ?_⟩) (by assumption) ?_; rotate_left 1; (focus (intro w hSw; (try dsimp only at hSw); simp only [List.getElem_toArray, List.getElem_cons_succ, List.getElem_cons_zero]; all_goals go_simp; all_goals (try with_reducible rfl))); (try simp only [Act.put, List.getElem_toArray, List.getElem_cons_succ, List.getElem_cons_zero, List.setIfInBounds_toArray, List.set_cons_zero, List.set_cons_succ])
        refine wpAnyH_take (i := 2) (v := ?_) (by rfl) (by kernel_rfl) (by kernel_rfl) (by kernel_rfl) (fun _ _ _ h => h) (Or.inl ⟨by kernel_rfl, ?_⟩) (by assumption) ?_; rotate_left 1; (focus (intro w hSw; (try dsimp only at hSw); simp only [List.getElem_toArray, List.getElem_cons_succ, List.getElem_cons_zero]; all_goals go_simp; all_goals (try with_reducible rfl))); (try simp only [Act.put, List.getElem_toArray, List.getElem_cons_succ, List.getElem_cons_zero, List.setIfInBounds_toArray, List.set_cons_zero, List.set_cons_succ])
        refine wpAnyH_take (i := 3) (v := ?_) (by rfl) (by kernel_rfl) (by kernel_rfl) (by kernel_rfl) (fun _ _ _ h => h) (Or.inl ⟨by kernel_rfl, ?_⟩) (by assumption) ?_; rotate_left 1; (focus (intro w hSw; (try dsimp only at hSw); simp only [List.getElem_toArray, List.getElem_cons_succ, List.getElem_cons_zero]; all_goals go_simp; all_goals (try with_reducible rfl))); (try simp only [Act.put, List.getElem_toArray, List.getElem_cons_succ, List.getElem_cons_zero, List.setIfInBounds_toArray, List.set_cons_zero, List.set_cons_succ])
        refine wpAnyH_take (i := 4) (v := ?_) (by rfl) (by kernel_rfl) (by kernel_rfl) (by kernel_rfl) (fun _ _ _ h => h) (Or.inl ⟨by kernel_rfl, ?_⟩) (by assumption) ?_; rotate_left 1; (focus (intro w hSw; (try dsimp only at hSw); simp only [List.getElem_toArray, List.getElem_cons_succ, List.getElem_cons_zero]; all_goals go_simp; all_goals (try with_reducible rfl))); (try simp only [Act.put, List.getElem_toArray, List.getElem_cons_succ, List.getElem_cons_zero, List.setIfInBounds_toArray, List.set_cons_zero, List.set_cons_succ])
        refine wpAnyH_take (i := 5) (v := ?_) (by rfl) (by kernel_rfl) (by kernel_rfl) (by kernel_rfl) (fun _ _ _ h => h) (Or.inl ⟨by kernel_rfl, ?_⟩) (by assumption) ?_; rotate_left 1; (focus (intro w hSw; (try dsimp only at hSw); simp only [List.getElem_toArray, List.getElem_cons_succ, List.getElem_cons_zero]; all_goals go_simp; all_goals (try with_reducible rfl))); (try simp only [Act.put, List.getElem_toArray, List.getElem_cons_succ, List.getElem_cons_zero, List.setIfInBounds_toArray, List.set_cons_zero, List.set_cons_succ])
        refine wpAnyH_take (i := 7) (v := ?_) (by rfl) (by kernel_rfl) (by kernel_rfl) (by kernel_rfl) (fun _ _ _ h => h) (Or.inl ⟨by kernel_rfl, ?_⟩) (by assumption) ?_; rotate_left 1; (focus (intro w hSw; (try dsimp only at hSw); simp only [List.getElem_toArray, List.getElem_cons_succ, List.getElem_cons_zero]; all_goals go_simp; all_goals (try with_reducible rfl))); (try simp only [Act.put, List.getElem_toArray, List.getElem_cons_succ, List.getElem_cons_zero, List.setIfInBounds_toArray, List.set_cons_zero, List.set_cons_succ])
        refine wpAnyH_ready (rs := [6]) (by kernel_rfl) (by simp) ?_; refine AllReadyH.cons (by rfl) (fun K hK => ?_) AllReadyH.nil; rw [if_pos (by kernel_rfl)]; simp only [List.getElem_toArray, List.getElem_cons_succ, List.getElem_cons_zero]
        go_wp2_with (first
          | (go_at_call 79; (with_reducible refine (bowner_live 2 i vi 0 0 L.G1 q' i256 hq' HLv _ HWD.out (HTt.out _ HWD.out)).mono ?_); rintro e w3 ⟨rfl, hb⟩; have HB3 := Lib.hid hb; clear hb))
        refine hK.out _ _ (HS.out _ HB3.out) (fun hHeld => ?_)
        clear hK K
        (try simp only [Act.put, List.getElem_toArray, List.getElem_cons_succ, List.getElem_cons_zero, List.setIfInBounds_toArray, List.set_cons_zero, List.set_cons_succ])
        have HO3 := Lib.hid (HOD.out.below HB3.out)
        have HK3 := Lib.hid (HKD.out.below HB3.out)
        have r0 := HK3.out.c0
        have r1 := HK3.out.c1
        have r2 := HK3.out.c2
        have r3 := HK3.out.c3
        have r4 := HK3.out.c4
        have z0 := HO3.out.o0
        have zf := HO3.out.fr
        by_cases heq : (q' : Int) = (q : Int)
        · have te : ((q' : Int) == (q : Int)) = true := by simpa using heq
          have HE := Lib.hid heq
          clear heq
          refine wpAnyH_take (i := 8) (v := ?_) (by rfl) (by kernel_rfl) (by kernel_rfl) (by kernel_rfl) (fun _ _ _ h => h) (Or.inl ⟨by kernel_rfl, ?_⟩) (by assumption) ?_; rotate_left 1; (focus (intro w hSw; (try dsimp only at hSw); simp only [List.getElem_toArray, List.getElem_cons_succ, List.getElem_cons_zero]; all_goals go_simp; all_goals (try with_reducible rfl))); (try simp only [Act.put, List.getElem_toArray, List.getElem_cons_succ, List.getElem_cons_zero, List.setIfInBounds_toArray, List.set_cons_zero, List.set_cons_succ])
          refine wpAnyH_take (i := 9) (v := ?_) (by rfl) (by kernel_rfl) (by kernel_rfl) (by kernel_rfl) (fun _ _ _ h => h) (Or.inl ⟨by kernel_rfl, ?_⟩) (by assumption) ?_; rotate_left 1; (focus (intro w hSw; (try dsimp only at hSw); simp only [List.getElem_toArray, List.getElem_cons_succ, List.getElem_cons_zero]; all_goals go_simp; all_goals (try with_reducible rfl))); (try simp only [Act.put, List.getElem_toArray, List.getElem_cons_succ, List.getElem_cons_zero, List.setIfInBounds_toArray, List.set_cons_zero, List.set_cons_succ])
          refine wpAnyH_done (by kernel_rfl) ?_ _
          refine NoPanic.normal ?_
          clear hHeld
          obtain ⟨va, vc, hva⟩ := own_shape' HO3.out.row
          subst hva
          have HO4 := Lib.hid (fun X => HO3.out.below ((Below.refl _ _).alloc (Nat.le_refl _) _ : Below w3.heap.size w3 (w3.alloc X)))
          go_wp2_with (first
            | (at_builtin; refine wpList_append_own _ rfl _ _ 73 rfl (ob + 1) 42 i0 (.agg #[.int .i64 0, .int .i64 0, .int .i64 0, .int .i64 0, .int .u32 0]) 5 40 Tryz.underlying73 HI.out.1 HI.out.2.1 HI.out.2.2.1 HI.out.2.2.2 rfl (by decide) _ _ _ rfl (HO4.out _).row ⟨w3.heap.size, 0, none⟩ 1 1 [.int .i64 2, .int .i64 (i : Int), .int .i64 vi, .int .i64 0, .int .u32 0] rfl rfl ok5_at (ok5_one _ _ _ _ _) (by unfold maxLen; omega) (by omega) (by have := HO3.out.lt; simp; omega) ?_; intro v' w5 hown hgrow _; obtain ⟨vb, vd, hvb⟩ := own_shape' hown; subst hvb; have HG5 := Lib.hid ((HO4.out _).grown hgrow hown); clear hown hgrow; have y0 := HG5.out.o0; have yf := HG5.out.fr))
          have HS5 := Lib.hid HG5.out.put
          go_roundw
          case rel => exact ⟨i + 1, _, by omega, by go_num, by rw [oks_yes T o q i HT.out (by rw [Ho.out, HE.out]), okc_snoc, ← List.append_assoc, ← hxs.out, List.length_append, ← Nat.add_assoc, ← hm.out, hvi.out]; exact HS5.out⟩
          case measure => simp [intOf]; omega
        · have te : ((q' : Int) == (q : Int)) = false := by simpa using heq
          have HE := Lib.hid heq
          clear heq
          refine wpAnyH_take (i := 8) (v := ?_) (by rfl) (by kernel_rfl) (by kernel_rfl) (by kernel_rfl) (fun _ _ _ h => h) (Or.inl ⟨by kernel_rfl, ?_⟩) (by assumption) ?_; rotate_left 1; (focus (intro w hSw; (try dsimp only at hSw); simp only [List.getElem_toArray, List.getElem_cons_succ, List.getElem_cons_zero]; all_goals go_simp; all_goals (try with_reducible rfl))); (try simp only [Act.put, List.getElem_toArray, List.getElem_cons_succ, List.getElem_cons_zero, List.setIfInBounds_toArray, List.set_cons_zero, List.set_cons_succ])
          refine wpAnyH_take (i := 9) (v := ?_) (by rfl) (by kernel_rfl) (by kernel_rfl) (by kernel_rfl) (fun _ _ _ h => h) (Or.inl ⟨by kernel_rfl, ?_⟩) (by assumption) ?_; rotate_left 1; (focus (intro w hSw; (try dsimp only at hSw); simp only [List.getElem_toArray, List.getElem_cons_succ, List.getElem_cons_zero]; all_goals go_simp; all_goals (try with_reducible rfl))); (try simp only [Act.put, List.getElem_toArray, List.getElem_cons_succ, List.getElem_cons_zero, List.setIfInBounds_toArray, List.set_cons_zero, List.set_cons_succ])
          refine wpAnyH_done (by kernel_rfl) ?_ _
          refine NoPanic.normal ?_
          clear hHeld
          go_wp2_with fail
          go_roundw
          case rel => exact ⟨i + 1, v, by omega, by go_num, by rw [oks_no T o q i (by rw [Ho.out]; exact HE.out), ← hm.out, ← hxs.out]; exact HO3.out⟩
          case measure => simp [intOf]; omega
      · have hT' : T i = false := by simpa using hT
        have HC := Lib.hid (hno.out i hlt hT')
        have HT := Lib.hid hT'
        clear hT hT'
        go_upto_region 4 with (first
          | (go_at_call 107; (with_reducible refine (HC.out _ HW.out ⟨HO.out.b0, Nat.lt_trans HO.out.nb.2.2.2.1 HO.out.lt⟩).mono ?_); rintro e w1 ⟨rfl, hb⟩; have HB1 := Lib.hid hb; clear hb))
        obtain ⟨kb, hkb⟩ : ∃ kb, kb = w1.heap.size := ⟨_, rfl⟩
        generalize hw2 : World.alloc w1 _ = w2
        have HB2 : Hid (Below w1.heap.size w1 w2) := Lib.hid (by rw [← hw2]; exact (Below.refl _ _).alloc (Nat.le_refl _) _)
        have HK2 : Hid (KeyC w2 kb 0 0 0 0 0) := Lib.hid (by rw [← hw2, hkb]; exact KeyC.new w1 0 0 0 0 0 _)
        rw [← hkb]
        clear hw2 hkb
        obtain ⟨wD, hwD⟩ : ∃ wD, wD = w2.drew := ⟨_, rfl⟩
        have HBD : Hid (Below wr.heap.size wr wD) := Lib.hid (by rw [hwD]; exact (HB1.out.trans (HB2.out.mono HB1.out.size)).drew)
        have HKD : Hid (KeyC wD kb 0 0 0 0 0) := Lib.hid (by rw [hwD]; exact HK2.out.below (Below.refl _ _).drew)
        have HOD := Lib.hid (HO.out.below HBD.out)
        refine wp_region_noPanic ?_
        refine wp_region_held_drew (S := fun w' => World.cell? w' ⟨kb, 0, none⟩ = some (.int .i64 0)) (by kernel_rfl) (by rw [← hwD]; exact HKD.out.c0) (fun hHeld => ?_)
        rw [← hwD] at hHeld ⊢
        clear hwD
        refine wpAnyH_take (i := 0) (v := ?_) (by rfl) (by kernel_rfl) (by kernel_rfl) (by kernel_rfl) (fun _ _ _ h => h) (Or.inl ⟨by kernel_rfl, ?_⟩) (by assumption) ?_; rotate_left 1; (focus (intro w hSw; (try dsimp only at hSw); simp only [List.getElem_toArray, List.getElem_cons_succ, List.getElem_cons_zero]; all_goals go_simp; all_goals (try with_reducible rfl))); (try simp only [Act.put, List.getElem_toArray, List.getElem_cons_succ, List.getElem_cons_zero, List.setIfInBounds_toArray, List.set_cons_zero, List.set_cons_succ])
        refine wpAnyH_take (i := 1) (v := ?_) (by rfl) (by kernel_rfl) (by kernel_rfl) (by kernel_rfl) (fun _ _ _ h => h) (Or.inl ⟨by kernel_rfl, ?_⟩) (by assumption) ?_; rotate_left 1; (focus (intro w hSw; (try dsimp only at hSw); simp only [List.getElem_toArray, List.getElem_cons_succ, List.getElem_cons_zero]; all_goals go_simp; all_goals (try with_reducible rfl))); (try simp only [Act.put, List.getElem_toArray, List.getElem_cons_succ, List.getElem_cons_zero, List.setIfInBounds_toArray, List.set_cons_zero, List.set_cons_succ])
        refine wpAnyH_take (i := 2) (v := ?_) (by rfl) (by kernel_rfl) (by kernel_rfl) (by kernel_rfl) (fun _ _ _ h => h) (Or.inl ⟨by kernel_rfl, ?_⟩) (by assumption) ?_; rotate_left 1; (focus (intro w hSw; (try dsimp only at hSw); simp only [List.getElem_toArray, List.getElem_cons_succ, List.getElem_cons_zero]; all_goals go_simp; all_goals (try with_reducible rfl))); (try simp only [Act.put, List.getElem_toArray, List.getElem_cons_succ, List.getElem_cons_zero, List.setIfInBounds_toArray, List.set_cons_zero, List.set_cons_succ])
        refine wpAnyH_take (i := 3) (v := ?_) (by rfl) (by kernel_rfl) (by kernel_rfl) (by kernel_rfl) (fun _ _ _ h => h) (Or.inl ⟨by kernel_rfl, ?_⟩) (by assumption) ?_; rotate_left 1; (focus (intro w hSw; (try dsimp only at hSw); simp only [List.getElem_toArray, List.getElem_cons_succ, List.getElem_cons_zero]; all_goals go_simp; all_goals (try with_reducible rfl))); (try simp only [Act.put, List.getElem_toArray, List.getElem_cons_succ, List.getElem_cons_zero, List.setIfInBounds_toArray, List.set_cons_zero, List.set_cons_succ])
        refine wpAnyH_take (i := 4) (v := undef) (by rfl) (by kernel_rfl) (by kernel_rfl) (by kernel_rfl) (fun _ _ _ h => h) (Or.inr ⟨by kernel_rfl, rfl⟩) (by assumption) ?_; (try simp only [Act.put, List.getElem_toArray, List.getElem_cons_succ, List.getElem_cons_zero, List.setIfInBounds_toArray, List.set_cons_zero, List.set_cons_succ])
        refine wpAnyH_take (i := 5) (v := undef) (by rfl) (by kernel_rfl) (by kernel_rfl) (by kernel_rfl) (fun _ _ _ h => h) (Or.inr ⟨by kernel_rfl, rfl⟩) (by assumption) ?_; (try simp only [Act.put, List.getElem_toArray, List.getElem_cons_succ, List.getElem_cons_zero, List.setIfInBounds_toArray, List.set_cons_zero, List.set_cons_succ])
        refine wpAnyH_take (i := 6) (v := undef) (by rfl) (by kernel_rfl) (by kernel_rfl) (by kernel_rfl) (fun _ _ _ h => h) (Or.inr ⟨by kernel_rfl, rfl⟩) (by assumption) ?_; (try simp only [Act.put, List.getElem_toArray, List.getElem_cons_succ, List.getElem_cons_zero, List.setIfInBounds_toArray, List.set_cons_zero, List.set_cons_succ])
        refine wpAnyH_take (i := 7) (v := undef) (by rfl) (by kernel_rfl) (by kernel_rfl) (by kernel_rfl) (fun _ _ _ h => h) (Or.inr ⟨by kernel_rfl, rfl⟩) (by assumption) ?_; (try simp only [Act.put, List.getElem_toArray, List.getElem_cons_succ, List.getElem_cons_zero, List.setIfInBounds_toArray, List.set_cons_zero, List.set_cons_succ])
        refine wpAnyH_take (i := 8) (v := undef) (by rfl) (by kernel_rfl) (by kernel_rfl) (by kernel_rfl) (fun _ _ _ h => h) (Or.inr ⟨by kernel_rfl, rfl⟩) (by assumption) ?_; (try simp only [Act.put, List.getElem_toArray, List.getElem_cons_succ, List.getElem_cons_zero, List.setIfInBounds_toArray, List.set_cons_zero, List.set_cons_succ])
        refine wpAnyH_take (i := 9) (v := ?_) (by rfl) (by kernel_rfl) (by kernel_rfl) (by kernel_rfl) (fun _ _ _ h => h) (Or.inl ⟨by kernel_rfl, ?_⟩) (by assumption) ?_; rotate_left 1; (focus (intro w hSw; (try dsimp only at hSw); simp only [List.getElem_toArray, List.getElem_cons_succ, List.getElem_cons_zero]; all_goals go_simp; all_goals (try with_reducible rfl))); (try simp only [Act.put, List.getElem_toArray, List.getElem_cons_succ, List.getElem_cons_zero, List.setIfInBounds_toArray, List.set_cons_zero, List.set_cons_succ])
        refine wpAnyH_done (by kernel_rfl) ?_ _
        refine NoPanic.normal ?_
        clear hHeld
        go_wp2_with fail
        go_roundw
        case rel => exact ⟨i + 1, v, by omega, by go_num, by rw [oks_dead T o q i HT.out, ← hm.out, ← hxs.out]; exact HOD.out⟩
        case measure => simp [intOf]; omega
    · obtain ⟨rfl⟩ : i = n := (by omega)
      go_wp2_with fail
      go_end0
      exact ⟨rfl, v, by rw [← hm.out, ← hxs.out]; exact HO.out⟩

set_option maxRecDepth 100000 in
set_option maxHeartbeats 2000000 in
theorem badd_dom {w0 : World} {L : BLoc} {D : BSt} (M : World) (bb ib ob q n m0 : Nat) (xs0 : List Value) (o vv : Nat → Int) (T : Nat → Bool) (V : Nat → Int) (hn : n ≤ 256) (hm0 : m0 ≤ 1000)
    (hlive : Hid (∀ i, i < n → T i = true → liveK L D 4 (i : Int) (V i) = true))
    (htit : Hid (∀ W, BW w0 W L D → ∀ i, i < n → TiAt W L 4 L.G3 i (o i) (vv i)))
    (how : Hid (∀ i, i < n → T i = true → ∃ q' : Nat, q' < D.nb ∧ o i = (q' : Int) ∧ vv i = V i))
    (hyes : Hid (∀ i, i < n → T i = true → ∀ W, BW w0 W L D → True → Calls Tryz.prog 55 #[.pointer (some ⟨L.dP, 0, none⟩), .int .i64 (i : Int)] W fun e w' => e = .returned (.agg #[.int .i64 4, .int .i64 (i : Int), .int .i64 (V i), .int .i64 0, .int .u32 0]) ∧ Below W.heap.size W w'))
    (hno : Hid (∀ i, i < n → T i = false → ∀ W, BW w0 W L D → True → Calls Tryz.prog 55 #[.pointer (some ⟨L.dP, 0, none⟩), .int .i64 (i : Int)] W fun e w' => e = .returned (Value.agg #[.int .i64 0, .int .i64 0, .int .i64 0, .int .i64 0, .int .u32 0]) ∧ Below W.heap.size W w'))
    (hM : BW w0 M L D) (w : World) (v0 : Value) (h : OwS M w L.P bb ib ob q v0 m0 xs0) :
    Calls Tryz.prog 105 #[.int .i64 (n : Int), .func (.func 55) #[.pointer (some ⟨L.dP, 0, none⟩)] #[], .pointer (some ⟨bb, 0, none⟩), .pointer (some ⟨ib, 0, none⟩), .pointer (some ⟨ob, 0, none⟩)] w fun e w' => e = .returned (.tuple #[]) ∧ ∃ v, OwS M w' L.P bb ib ob q v (m0 + (oks T o q n).length) (xs0 ++ okc 4 V (oks T o q n)) := by
  have H := Lib.hid h
  have HM := Lib.hid hM
  obtain ⟨i0, hi, hz0, hz1, hz2⟩ := info_parts infoKeyO
  have HI := Lib.hid (⟨hi, hz0, hz1, hz2⟩ : Tryz.prog.info? 42 = some i0 ∧ i0.zero = some (.agg #[.int .i64 0, .int .i64 0, .int .i64 0, .int .i64 0, .int .u32 0]) ∧ i0.size = 5 ∧ i0.bytes = 40)
  clear h hM hi hz0 hz1 hz2
  go_enter Tryz.func105, Tryz.ntmps105
  go_wp2_with fail
  go_loopw [10] (fun x wr => ∃ (i : Nat) (v : Value), i ≤ n ∧ x = .int .i64 (i : Int) ∧ OwS M wr L.P bb ib ob q v (m0 + (oks T o q i).length) (xs0 ++ okc 4 V (oks T o q i))) (fun x _ => n - (intOf x).toNat)
  case atStart => exact ⟨0, v0, Nat.zero_le _, rfl, by simpa [oks_zero, okc] using H.out⟩
  case round =>
    obtain ⟨i, v, hin, rfl, hO⟩ := hrel
    have HO := Lib.hid hO
    have HW := Lib.hid (HM.out.below hO.bel)
    clear hO
    have g0 : (0 : Int) ≤ i := by omega
    have hle := oks_len T o q i
    obtain ⟨m, hm⟩ : ∃ m, Hid (m = m0 + (oks T o q i).length) := ⟨_, Lib.hid rfl⟩
    obtain ⟨xs, hxs⟩ : ∃ xs, Hid (xs = xs0 ++ okc 4 V (oks T o q i)) := ⟨_, Lib.hid rfl⟩
    rw [← hm.out, ← hxs.out] at HO
    have hmb : m ≤ 1256 := by have := hm.out; omega
    clear hle
    by_cases hlt : i < n
    · by_cases hT : T i = true
      · obtain ⟨q', hq', ho', hv'⟩ := how.out i hlt hT
        have HLv := Lib.hid (hlive.out i hlt hT)
        have HC := Lib.hid (hyes.out i hlt hT)
        obtain ⟨vi, hvi⟩ : ∃ vi, Hid (V i = vi) := ⟨_, Lib.hid rfl⟩
        have HTt := Lib.hid (fun W hW => by have := htit.out W hW i hlt; rw [ho', hv', hvi.out] at this; exact this)
        rw [hvi.out] at HLv HC
        have HT := Lib.hid hT
        have Ho := Lib.hid ho'
        have i256 : i < 256 := by omega
        clear hT ho' hv'
        go_upto_region 4 with (first
          | (go_at_call 55; (with_reducible refine (HC.out _ HW.out trivial).mono ?_); rintro e w1 ⟨rfl, hb⟩; have HB1 := Lib.hid hb; clear hb))
        obtain ⟨kb, hkb⟩ : ∃ kb, kb = w1.heap.size := ⟨_, rfl⟩
        generalize hw2 : World.alloc w1 _ = w2
        have HB2 : Hid (Below w1.heap.size w1 w2) := Lib.hid (by rw [← hw2]; exact (Below.refl _ _).alloc (Nat.le_refl _) _)
        have HK2 : Hid (KeyC w2 kb 4 (i : Int) vi 0 0) := Lib.hid (by rw [← hw2, hkb]; exact KeyC.new w1 4 (i : Int) vi 0 0 _)
        rw [← hkb]
        clear hw2 hkb
        obtain ⟨wD, hwD⟩ : ∃ wD, wD = w2.drew := ⟨_, rfl⟩
        have HBD : Hid (Below wr.heap.size wr wD) := Lib.hid (by rw [hwD]; exact (HB1.out.trans (HB2.out.mono HB1.out.size)).drew)
        have HKD : Hid (KeyC wD kb 4 (i : Int) vi 0 0) := Lib.hid (by rw [hwD]; exact HK2.out.below (Below.refl _ _).drew)
        have HOD := Lib.hid (HO.out.below HBD.out)
        have HWD := Lib.hid (HW.out.below HBD.out)
        have HS : Hid (∀ W, Below wD.heap.size wD W → ((World.cell? W ⟨kb, 0, none⟩ = some (.int .i64 4) ∧ World.cell? W ⟨kb, 1, none⟩ = some (.int .i64 (i : Int)) ∧ World.cell? W ⟨kb, 2, none⟩ = some (.int .i64 vi) ∧ World.cell? W ⟨kb, 3, none⟩ = some (.int .i64 0) ∧ World.cell? W ⟨kb, 4, none⟩ = some (.int .u32 0)) ∧ World.cell? W ⟨bb, 0, none⟩ = some (.pointer (some ⟨L.P, 0, none⟩)) ∧ World.cell? W ⟨ib, 0, none⟩ = some (.int .i64 (q : Int)))) := Lib.hid (fun W hb => ⟨(HKD.out.below hb).k5, (HOD.out.below hb).b0, (HOD.out.below hb).i0⟩)
        refine wp_region_noPanic ?_
        refine wp_region_held_drew (S := fun w' => ((World.cell? w' ⟨kb, 0, none⟩ = some (.int .i64 4) ∧ World.cell? w' ⟨kb, 1, none⟩ = some (.int .i64 (i : Int)) ∧ World.cell? w' ⟨kb, 2, none⟩ = some (.int .i64 vi) ∧ World.cell? w' ⟨kb, 3, none⟩ = some (.int .i64 0) ∧ World.cell? w' ⟨kb, 4, none⟩ = some (.int .u32 0)) ∧ World.cell? w' ⟨bb, 0, none⟩ = some (.pointer (some ⟨L.P, 0, none⟩)) ∧ World.cell? w' ⟨ib, 0, none⟩ = some (.int .i64 (q : Int)))) (by kernel_rfl) (by rw [← hwD]; exact HS.out _ (Below.refl _ _)) (fun hHeld => ?_)
        rw [← hwD] at hHeld ⊢
        clear hwD
        refine wpAnyH_take (i := 0) (v := ?_) (by rfl) (by kernel_rfl) (by kernel_rfl) (by kernel_rfl) (fun _ _ _ h => h) (Or.inl ⟨by kernel_rfl, ?_⟩) (by assumption) ?_; rotate_left 1; (focus (intro w hSw; (try dsimp only at hSw); simp only [List.getElem_toArray, List.getElem_cons_succ, List.getElem_cons_zero]; all_goals go_simp; all_goals (try with_reducible rfl))); (try simp only [Act.put, List.getElem_toArray, List.getElem_cons_succ, List.getElem_cons_zero, List.setIfInBounds_toArray, List.set_cons_zero, List.set_cons_succ])
        refine wpAnyH_take (i := 1) (v := ?_) (by rfl) (by kernel_rfl) (by kernel_rfl) (by kernel_rfl) (fun _ _ _ h => h) (Or.inl ⟨by kernel_rfl, ?_⟩) (by assumption) ?_; rotate_left 1; (focus (intro w hSw; (try dsimp only at hSw); simp only [List.getElem_toArray, List.getElem_cons_succ, List.getElem_cons_zero]; all_goals go_simp; all_goals (try with_reducible rfl))); (try simp only [Act.put, List.getElem_toArray, List.getElem_cons_succ, List.getElem_cons_zero, List.setIfInBounds_toArray, List.set_cons_zero, List.set_cons_succ])
        refine wpAnyH_take (i := 2) (v := ?_) (by rfl) (by kernel_rfl) (by kernel_rfl) (by kernel_rfl) (fun _ _ _ h => h) (Or.inl ⟨by kernel_rfl, ?_⟩) (by assumption) ?_; rotate_left 1; (focus (intro w hSw; (try dsimp only at hSw); simp only [List.getElem_toArray, List.getElem_cons_succ, List.getElem_cons_zero]; all_goals go_simp; all_goals (try with_reducible rfl))); (try simp only [Act.put, List.getElem_toArray, List.getElem_cons_succ, List.getElem_cons_zero, List.setIfInBounds_toArray, List.set_cons_zero, List.set_cons_succ])
        refine wpAnyH_take (i := 3) (v := ?_) (by rfl) (by kernel_rfl) (by kernel_rfl) (by kernel_rfl) (fun _ _ _ h => h) (Or.inl ⟨by kernel_rfl, ?_⟩) (by assumption) ?_; rotate_left 1; (focus (intro w hSw; (try dsimp only at hSw); simp only [List.getElem_toArray, List.getElem_cons_succ, List.getElem_cons_zero]; all_goals go_simp; all_goals (try with_reducible rfl))); (try simp only [Act.put, List.getElem_toArray, List.getElem_cons_succ, List.getElem_cons_zero, List.setIfInBounds_toArray, List.set_cons_zero, List.set_cons_succ])
        refine wpAnyH_take (i := 4) (v := ?_) (by rfl) (by kernel_rfl) (by kernel_rfl) (by kernel_rfl) (fun _ _ _ h => h) (Or.inl ⟨by kernel_rfl, ?_⟩) (by assumption) ?_; rotate_left 1; (focus (intro w hSw; (try dsimp only at hSw); simp only [List.getElem_toArray, List.getElem_cons_succ, List.getElem_cons_zero]; all_goals go_simp; all_goals (try with_reducible rfl))); (try simp only [Act.put, List.getElem_toArray, List.getElem_cons_succ, List.getElem_cons_zero, List.setIfInBounds_toArray, List.set_cons_zero, List.set_cons_succ])
        refine wpAnyH_take (i := 5) (v := ?_) (by rfl) (by kernel_rfl) (by kernel_rfl) (by kernel_rfl) (fun _ _ _ h => h) (Or.inl ⟨by kernel_rfl, ?_⟩) (by assumption) ?_; rotate_left 1; (focus (intro w hSw; (try dsimp only at hSw); simp only [List.getElem_toArray, List.getElem_cons_succ, List.getElem_cons_zero]; all_goals go_simp; all_goals (try with_reducible rfl))); (try simp only [Act.put, List.getElem_toArray, List.getElem_cons_succ, List.getElem_cons_zero, List.setIfInBounds_toArray, List.set_cons_zero, List.set_cons_succ])
        refine wpAnyH_take (i := 7) (v := ?_) (by rfl) (by kernel_rfl) (by kernel_rfl) (by kernel_rfl) (fun _ _ _ h => h) (Or.inl ⟨by kernel_rfl, ?_⟩) (by assumption) ?_; rotate_left 1; (focus (intro w hSw; (try dsimp only at hSw); simp only [List.getElem_toArray, List.getElem_cons_succ, List.getElem_cons_zero]; all_goals go_simp; all_goals (try with_reducible rfl))); (try simp only [Act.put, List.getElem_toArray, List.getElem_cons_succ, List.getElem_cons_zero, List.setIfInBounds_toArray, List.set_cons_zero, List.set_cons_succ])
        refine wpAnyH_ready (rs := [6]) (by kernel_rfl) (by simp) ?_; refine AllReadyH.cons (by rfl) (fun K hK => ?_) AllReadyH.nil; rw [if_pos (by kernel_rfl)]; simp only [List.getElem_toArray, List.getElem_cons_succ, List.getElem_cons_zero]
        go_wp2_with (first
          | (go_at_call 79; (with_reducible refine (bowner_live 4 i vi 0 0 L.G3 q' i256 hq' HLv _ HWD.out (HTt.out _ HWD.out)).mono ?_); rintro e w3 ⟨rfl, hb⟩; have HB3 := Lib.hid hb; clear hb))
        refine hK.out _ _ (HS.out _ HB3.out) (fun hHeld => ?_)
        clear hK K
        (try simp only [Act.put, List.getElem_toArray, List.getElem_cons_succ, List.getElem_cons_zero, List.setIfInBounds_toArray, List.set_cons_zero, List.set_cons_succ])
        have HO3 := Lib.hid (HOD.out.below HB3.out)
        have HK3 := Lib.hid (HKD.out.below HB3.out)
        have r0 := HK3.out.c0
        have r1 := HK3.out.c1
        have r2 := HK3.out.c2
        have r3 := HK3.out.c3
        have r4 := HK3.out.c4
        have z0 := HO3.out.o0
        have zf := HO3.out.fr
        by_cases heq : (q' : Int) = (q : Int)
        · have te : ((q' : Int) == (q : Int)) = true := by simpa using heq
          have HE := Lib.hid heq
          clear heq
          refine wpAnyH_take (i := 8) (v := ?_) (by rfl) (by kernel_rfl) (by kernel_rfl) (by kernel_rfl) (fun _ _ _ h => h) (Or.inl ⟨by kernel_rfl, ?_⟩) (by assumption) ?_; rotate_left 1; (focus (intro w hSw; (try dsimp only at hSw); simp only [List.getElem_toArray, List.getElem_cons_succ, List.getElem_cons_zero]; all_goals go_simp; all_goals (try with_reducible rfl))); (try simp only [Act.put, List.getElem_toArray, List.getElem_cons_succ, List.getElem_cons_zero, List.setIfInBounds_toArray, List.set_cons_zero, List.set_cons_succ])
          refine wpAnyH_take (i := 9) (v := ?_) (by rfl) (by kernel_rfl) (by kernel_rfl) (by kernel_rfl) (fun _ _ _ h => h) (Or.inl ⟨by kernel_rfl, ?_⟩) (by assumption) ?_; rotate_left 1; (focus (intro w hSw; (try dsimp only at hSw); simp only [List.getElem_toArray, List.getElem_cons_succ, List.getElem_cons_zero]; all_goals go_simp; all_goals (try with_reducible rfl))); (try simp only [Act.put, List.getElem_toArray, List.getElem_cons_succ, List.getElem_cons_zero, List.setIfInBounds_toArray, List.set_cons_zero, List.set_cons_succ])
          refine wpAnyH_done (by kernel_rfl) ?_ _
          refine NoPanic.normal ?_
          clear hHeld
          obtain ⟨va, vc, hva⟩ := own_shape' HO3.out.row
          subst hva
          have HO4 := Lib.hid (fun X => HO3.out.below ((Below.refl _ _).alloc (Nat.le_refl _) _ : Below w3.heap.size w3 (w3.alloc X)))
          go_wp2_with (first
            | (at_builtin; refine wpList_append_own _ rfl _ _ 73 rfl (ob + 1) 42 i0 (.agg #[.int .i64 0, .int .i64 0, .int .i64 0, .int .i64 0, .int .u32 0]) 5 40 Tryz.underlying73 HI.out.1 HI.out.2.1 HI.out.2.2.1 HI.out.2.2.2 rfl (by decide) _ _ _ rfl (HO4.out _).row ⟨w3.heap.size, 0, none⟩ 1 1 [.int .i64 4, .int .i64 (i : Int), .int .i64 vi, .int .i64 0, .int .u32 0] rfl rfl ok5_at (ok5_one _ _ _ _ _) (by unfold maxLen; omega) (by omega) (by have := HO3.out.lt; simp; omega) ?_; intro v' w5 hown hgrow _; obtain ⟨vb, vd, hvb⟩ := own_shape' hown; subst hvb; have HG5 := Lib.hid ((HO4.out _).grown hgrow hown); clear hown hgrow; have y0 := HG5.out.o0; have yf := HG5.out.fr))
          have HS5 := Lib.hid HG5.out.put
          go_roundw
          case rel => exact ⟨i + 1, _, by omega, by go_num, by rw [oks_yes T o q i HT.out (by rw [Ho.out, HE.out]), okc_snoc, ← List.append_assoc, ← hxs.out, List.length_append, ← Nat.add_assoc, ← hm.out, hvi.out]; exact HS5.out⟩
          case measure => simp [intOf]; omega
        · have te : ((q' : Int) == (q : Int)) = false := by simpa using heq
          have HE := Lib.hid heq
          clear heq
          refine wpAnyH_take (i := 8) (v := ?_) (by rfl) (by kernel_rfl) (by kernel_rfl) (by kernel_rfl) (fun _ _ _ h => h) (Or.inl ⟨by kernel_rfl, ?_⟩) (by assumption) ?_; rotate_left 1; (focus (intro w hSw; (try dsimp only at hSw); simp only [List.getElem_toArray, List.getElem_cons_succ, List.getElem_cons_zero]; all_goals go_simp; all_goals (try with_reducible rfl))); (try simp only [Act.put, List.getElem_toArray, List.getElem_cons_succ, List.getElem_cons_zero, List.setIfInBounds_toArray, List.set_cons_zero, List.set_cons_succ])
          refine wpAnyH_take (i := 9) (v := ?_) (by rfl) (by kernel_rfl) (by kernel_rfl) (by kernel_rfl) (fun _ _ _ h => h) (Or.inl ⟨by kernel_rfl, ?_⟩) (by assumption) ?_; rotate_left 1; (focus (intro w hSw; (try dsimp only at hSw); simp only [List.getElem_toArray, List.getElem_cons_succ, List.getElem_cons_zero]; all_goals go_simp; all_goals (try with_reducible rfl))); (try simp only [Act.put, List.getElem_toArray, List.getElem_cons_succ, List.getElem_cons_zero, List.setIfInBounds_toArray, List.set_cons_zero, List.set_cons_succ])
          refine wpAnyH_done (by kernel_rfl) ?_ _
          refine NoPanic.normal ?_
          clear hHeld
          go_wp2_with fail
          go_roundw
          case rel => exact ⟨i + 1, v, by omega, by go_num, by rw [oks_no T o q i (by rw [Ho.out]; exact HE.out), ← hm.out, ← hxs.out]; exact HO3.out⟩
          case measure => simp [intOf]; omega
      · have hT' : T i = false := by simpa using hT
        have HC := Lib.hid (hno.out i hlt hT')
        have HT := Lib.hid hT'
        clear hT hT'
        go_upto_region 4 with (first
          | (go_at_call 55; (with_reducible refine (HC.out _ HW.out trivial).mono ?_); rintro e w1 ⟨rfl, hb⟩; have HB1 := Lib.hid hb; clear hb))
        obtain ⟨kb, hkb⟩ : ∃ kb, kb = w1.heap.size := ⟨_, rfl⟩
        generalize hw2 : World.alloc w1 _ = w2
        have HB2 : Hid (Below w1.heap.size w1 w2) := Lib.hid (by rw [← hw2]; exact (Below.refl _ _).alloc (Nat.le_refl _) _)
        have HK2 : Hid (KeyC w2 kb 0 0 0 0 0) := Lib.hid (by rw [← hw2, hkb]; exact KeyC.new w1 0 0 0 0 0 _)
        rw [← hkb]
        clear hw2 hkb
        obtain ⟨wD, hwD⟩ : ∃ wD, wD = w2.drew := ⟨_, rfl⟩
        have HBD : Hid (Below wr.heap.size wr wD) := Lib.hid (by rw [hwD]; exact (HB1.out.trans (HB2.out.mono HB1.out.size)).drew)
        have HKD : Hid (KeyC wD kb 0 0 0 0 0) := Lib.hid (by rw [hwD]; exact HK2.out.below (Below.refl _ _).drew)
        have HOD := Lib.hid (HO.out.below HBD.out)
        refine wp_region_noPanic ?_
        refine wp_region_held_drew (S := fun w' => World.cell? w' ⟨kb, 0, none⟩ = some (.int .i64 0)) (by kernel_rfl) (by rw [← hwD]; exact HKD.out.c0) (fun hHeld => ?_)
        rw [← hwD] at hHeld ⊢
        clear hwD
        refine wpAnyH_take (i := 0) (v := ?_) (by rfl) (by kernel_rfl) (by kernel_rfl) (by kernel_rfl) (fun _ _ _ h => h) (Or.inl ⟨by kernel_rfl, ?_⟩) (by assumption) ?_; rotate_left 1; (focus (intro w hSw; (try dsimp only at hSw); simp only [List.getElem_toArray, List.getElem_cons_succ, List.getElem_cons_zero]; all_goals go_simp; all_goals (try with_reducible rfl))); (try simp only [Act.put, List.getElem_toArray, List.getElem_cons_succ, List.getElem_cons_zero, List.setIfInBounds_toArray, List.set_cons_zero, List.set_cons_succ])
        refine wpAnyH_take (i := 1) (v := ?_) (by rfl) (by kernel_rfl) (by kernel_rfl) (by kernel_rfl) (fun _ _ _ h => h) (Or.inl ⟨by kernel_rfl, ?_⟩) (by assumption) ?_; rotate_left 1; (focus (intro w hSw; (try dsimp only at hSw); simp only [List.getElem_toArray, List.getElem_cons_succ, List.getElem_cons_zero]; all_goals go_simp; all_goals (try with_reducible rfl))); (try simp only [Act.put, List.getElem_toArray, List.getElem_cons_succ, List.getElem_cons_zero, List.setIfInBounds_toArray, List.set_cons_zero, List.set_cons_succ])
        refine wpAnyH_take (i := 2) (v := ?_) (by rfl) (by kernel_rfl) (by kernel_rfl) (by kernel_rfl) (fun _ _ _ h => h) (Or.inl ⟨by kernel_rfl, ?_⟩) (by assumption) ?_; rotate_left 1; (focus (intro w hSw; (try dsimp only at hSw); simp only [List.getElem_toArray, List.getElem_cons_succ, List.getElem_cons_zero]; all_goals go_simp; all_goals (try with_reducible rfl))); (try simp only [Act.put, List.getElem_toArray, List.getElem_cons_succ, List.getElem_cons_zero, List.setIfInBounds_toArray, List.set_cons_zero, List.set_cons_succ])
        refine wpAnyH_take (i := 3) (v := ?_) (by rfl) (by kernel_rfl) (by kernel_rfl) (by kernel_rfl) (fun _ _ _ h => h) (Or.inl ⟨by kernel_rfl, ?_⟩) (by assumption) ?_; rotate_left 1; (focus (intro w hSw; (try dsimp only at hSw); simp only [List.getElem_toArray, List.getElem_cons_succ, List.getElem_cons_zero]; all_goals go_simp; all_goals (try with_reducible rfl))); (try simp only [Act.put, List.getElem_toArray, List.getElem_cons_succ, List.getElem_cons_zero, List.setIfInBounds_toArray, List.set_cons_zero, List.set_cons_succ])
        refine wpAnyH_take (i := 4) (v := undef) (by rfl) (by kernel_rfl) (by kernel_rfl) (by kernel_rfl) (fun _ _ _ h => h) (Or.inr ⟨by kernel_rfl, rfl⟩) (by assumption) ?_; (try simp only [Act.put, List.getElem_toArray, List.getElem_cons_succ, List.getElem_cons_zero, List.setIfInBounds_toArray, List.set_cons_zero, List.set_cons_succ])
        refine wpAnyH_take (i := 5) (v := undef) (by rfl) (by kernel_rfl) (by kernel_rfl) (by kernel_rfl) (fun _ _ _ h => h) (Or.inr ⟨by kernel_rfl, rfl⟩) (by assumption) ?_; (try simp only [Act.put, List.getElem_toArray, List.getElem_cons_succ, List.getElem_cons_zero, List.setIfInBounds_toArray, List.set_cons_zero, List.set_cons_succ])
        refine wpAnyH_take (i := 6) (v := undef) (by rfl) (by kernel_rfl) (by kernel_rfl) (by kernel_rfl) (fun _ _ _ h => h) (Or.inr ⟨by kernel_rfl, rfl⟩) (by assumption) ?_; (try simp only [Act.put, List.getElem_toArray, List.getElem_cons_succ, List.getElem_cons_zero, List.setIfInBounds_toArray, List.set_cons_zero, List.set_cons_succ])
        refine wpAnyH_take (i := 7) (v := undef) (by rfl) (by kernel_rfl) (by kernel_rfl) (by kernel_rfl) (fun _ _ _ h => h) (Or.inr ⟨by kernel_rfl, rfl⟩) (by assumption) ?_; (try simp only [Act.put, List.getElem_toArray, List.getElem_cons_succ, List.getElem_cons_zero, List.setIfInBounds_toArray, List.set_cons_zero, List.set_cons_succ])
        refine wpAnyH_take (i := 8) (v := undef) (by rfl) (by kernel_rfl) (by kernel_rfl) (by kernel_rfl) (fun _ _ _ h => h) (Or.inr ⟨by kernel_rfl, rfl⟩) (by assumption) ?_; (try simp only [Act.put, List.getElem_toArray, List.getElem_cons_succ, List.getElem_cons_zero, List.setIfInBounds_toArray, List.set_cons_zero, List.set_cons_succ])
        refine wpAnyH_take (i := 9) (v := ?_) (by rfl) (by kernel_rfl) (by kernel_rfl) (by kernel_rfl) (fun _ _ _ h => h) (Or.inl ⟨by kernel_rfl, ?_⟩) (by assumption) ?_; rotate_left 1; (focus (intro w hSw; (try dsimp only at hSw); simp only [List.getElem_toArray, List.getElem_cons_succ, List.getElem_cons_zero]; all_goals go_simp; all_goals (try with_reducible rfl))); (try simp only [Act.put, List.getElem_toArray, List.getElem_cons_succ, List.getElem_cons_zero, List.setIfInBounds_toArray, List.set_cons_zero, List.set_cons_succ])
        refine wpAnyH_done (by kernel_rfl) ?_ _
        refine NoPanic.normal ?_
        clear hHeld
        go_wp2_with fail
        go_roundw
        case rel => exact ⟨i + 1, v, by omega, by go_num, by rw [oks_dead T o q i HT.out, ← hm.out, ← hxs.out]; exact HOD.out⟩
        case measure => simp [intOf]; omega
    · obtain ⟨rfl⟩ : i = n := (by omega)
      go_wp2_with fail
      go_end0
      exact ⟨rfl, v, by rw [← hm.out, ← hxs.out]; exact HO.out⟩
end Go.Proofs.YtncopdhhchmpeaaGreatDoor
