/-
  Reads, Ve, Vf, Vg as one.
-/
import Derived.Test.YtjkbfhojjjkgnaaDoorStructs
import Derived.Test.YtjkbfhojjjkgnaaDoorP13
import Derived.Deep.RegionHeld3
import Derived.Test.YtjkbfhojjjkgnaaDoorP12
namespace Go.Proofs.YtjkbfhojjjkgnaaDoor
open Go.Joins Go.ChangeShapes Go.WideShapes Go.ChangeAt Go.RowKit Go.Deep
set_option linter.unusedVariables false
/-- These cells are read as a value of this type. -/
def Reads (P : Program) (w : World) (t : TypeId) (cs : List Value) : Prop := ∃ (H : Type) (enc : TypeId × Value → H) (base fuel : Nat) (held : Bool) (x : DataW H × List MemPlace), DataW.trod enc P w base (fun _ => true) held fuel t cs = some x
section
variable {P : Program} {w : World} {t e : TypeId} {cs : List Value}
theorem Reads.of {H : Type} {enc : TypeId × Value → H} {base : Nat} {held : Bool} {v : Value} {d : DataW H} {p : List MemPlace} (h : DataW.Trod enc P w base (fun _ => true) held t v d p) : Reads P w t v.cells.toList := by
  obtain ⟨fuel, hf⟩ := h
  exact ⟨H, enc, base, fuel, held, _, hf⟩
theorem Reads.int {k : IntKind} (ht : P.underlying t = some (.int k)) (h : Reads P w t cs) : ∃ n : Int, cs = [.int k n] ∧ (Lit.int k n).wf = true := by
  obtain ⟨H, enc, base, fuel, held, x, hf⟩ := h
  obtain ⟨n, e1, _, e2⟩ := DataW.trod_int ht hf
  exact ⟨n, e1, e2⟩
theorem Reads.bool (ht : P.underlying t = some .bool) (h : Reads P w t cs) : ∃ b : Bool, cs = [.bool b] := by
  obtain ⟨H, enc, base, fuel, held, x, hf⟩ := h
  obtain ⟨b, e1, _⟩ := DataW.trod_bool ht hf
  exact ⟨b, e1⟩
theorem Reads.string (ht : P.underlying t = some .string) (h : Reads P w t cs) : ∃ s : ByteArray, cs = [.string s] ∧ s.size ≤ maxLen := by
  obtain ⟨H, enc, base, fuel, held, x, hf⟩ := h
  obtain ⟨s, e1, _, e2⟩ := DataW.trod_string ht hf
  exact ⟨s, e1, e2⟩
theorem Reads.struct {fs : Array Field} (ht : P.underlying t = some (.struct fs)) (h : Reads P w t cs) : cs.length = P.cellsOf t ∧ ∀ (i : Nat) (f : Field), fs[i]? = some f → Reads P w f.type ((cs.drop f.offset).take (P.cellsOf f.type)) := by
  obtain ⟨H, enc, base, fuel, held, x, hf⟩ := h
  obtain ⟨xs, n, _, _, hl, hxl, hg⟩ := DataW.trod_struct ht hf
  refine ⟨hl, fun i f hi => ?_⟩
  have hlt : i < xs.length := by
    have := (Array.getElem?_eq_some_iff.1 hi).1
    omega
  exact ⟨H, enc, base, n, held, _, (hg i f hi).trans (List.getElem?_eq_getElem hlt)⟩
theorem Reads.array {n : Nat} (ht : P.underlying t = some (.array n e)) (h : Reads P w t cs) : ∀ i, i < n → Reads P w e ((cs.drop (i * P.cellsOf e)).take (P.cellsOf e)) := by
  obtain ⟨H, enc, base, fuel, held, x, hf⟩ := h
  obtain ⟨xs, m, _, _, _, hxl, hg⟩ := DataW.trod_array ht hf
  intro i hi
  exact ⟨H, enc, base, m, held, _, (hg i hi).trans (List.getElem?_eq_getElem (by omega))⟩
/-- A slice: nil, or each of its elements is read. -/
theorem Reads.slice {a : Option Addr} {len cap : Nat} (ht : P.underlying t = some (.slice e)) (h : Reads P w t [.slice a len cap]) :
    (a = none ∧ len = 0 ∧ cap = 0) ∨ ∃ x, a = some x ∧ len ≤ cap ∧ cap ≤ maxLen ∧ ∀ i, i < cap → ∃ cs', cs'.length = P.cellsOf e ∧ (∀ j v, cs'[j]? = some v → w.cell? (x.add (i * P.cellsOf e + j)) = some v) ∧ Reads P w e cs' := by
  obtain ⟨H, enc, base, fuel, held, x, hf⟩ := h
  rcases open_slice ht hf with ⟨h0, _⟩ | ⟨y, l, c, m, n, D, Pl, hcs, hb, hl, hm, hmm, hx, hi⟩
  · simp at h0
    exact .inl h0
  · simp at hcs
    obtain ⟨rfl, rfl, rfl⟩ := hcs
    have hmc : m = cap := by simpa using hmm
    refine .inr ⟨_, rfl, hl, hm, fun i hic => ?_⟩
    obtain ⟨cs', hc, ht'⟩ := hi i (by omega)
    obtain ⟨_, hcl, hat⟩ := World.cells?_some hc
    refine ⟨cs', hcl, fun j v hj => ?_, H, enc, base, n, held, _, ht'⟩
    have hjl : j < cs'.length := (List.getElem?_eq_some_iff.1 hj).1
    rw [← Go.Deep.add_add, hat j (by omega), hj]
theorem Reads.slice' {v : Value} (ht : P.underlying t = some (.slice e)) (h : Reads P w t [v]) : ∃ a len cap, v = .slice a len cap := by
  obtain ⟨H, enc, base, fuel, held, x, hf⟩ := h
  rcases open_slice ht hf with ⟨h0, _⟩ | ⟨y, l, c, m, n, D, Pl, hcs, hb, hl, hm, hmm, hx, hi⟩
  · simp at h0; exact ⟨_, _, _, h0⟩
  · simp at hcs; exact ⟨_, _, _, hcs⟩
theorem Reads.ints {k : IntKind} {a : Option Addr} {len cap : Nat} (ht : P.underlying t = some (.slice e)) (he : P.underlying e = some (.int k)) (hc : P.cellsOf e = 1) (h : Reads P w t [.slice a len cap]) : ∃ zs, IsRow k w a len cap zs := by
  obtain ⟨H, enc, base, fuel, held, x, hf⟩ := h
  rcases open_ints ht he hc hf with ⟨hcs, _⟩ | ⟨x, l, c, zs, hcs, _, hl, hm, hz, _, hcell, hwz⟩
  · simp at hcs
    obtain ⟨rfl, rfl, rfl⟩ := hcs
    exact ⟨[], .inl ⟨rfl, rfl, rfl, rfl⟩⟩
  · simp at hcs
    obtain ⟨rfl, rfl, rfl⟩ := hcs
    exact ⟨zs, .inr ⟨_, rfl, hl, hm, by simpa using hz, hcell, hwz⟩⟩
theorem Reads.rows {fs : Array Field} {a : Option Addr} {len cap : Nat} {ks : List IntKind} (ht : P.underlying t = some (.slice e)) (he : P.underlying e = some (.struct fs))
    (hone : oneCellFields P fs = true) (hC : P.cellsOf e = ks.length) (hfk : fs.size = ks.length) (hk : ∀ (j : Nat) (f : Field), fs[j]? = some f → ∃ k, ks[j]? = some k ∧ P.underlying f.type = some (.int k)) (h : Reads P w t [.slice a len cap]) : ∃ zs, IsRows ks w a len cap zs := by
  obtain ⟨H, enc, base, fuel, held, x, hf⟩ := h
  exact open_rows ht he hone hC hfk hk hf
/-- A field of one cell. -/
theorem Reads.cell {fs : Array Field} (ht : P.underlying t = some (.struct fs)) (h : Reads P w t cs) (i : Nat) (f : Field) (hf : fs[i]? = some f) (h1 : P.cellsOf f.type = 1) (ho : f.offset < P.cellsOf t) : ∃ v, cs[f.offset]? = some v ∧ Reads P w f.type [v] := by
  obtain ⟨hl, hg⟩ := h.struct ht
  have h2 := hg i f hf
  rw [h1] at h2
  have hlt : f.offset < cs.length := by omega
  refine ⟨cs[f.offset], List.getElem?_eq_getElem hlt, ?_⟩
  have e : (cs.drop f.offset).take 1 = [cs[f.offset]] := by
    rw [List.drop_eq_getElem_cons hlt]
    rfl
  rwa [e] at h2
end
end Go.Proofs.YtjkbfhojjjkgnaaDoor
namespace Go.Proofs.YtjkbfhojjjkgnaaDoor
open Go.ChangeShapes Go.WideShapes Go.ChangeAt Go.RowKit
set_option linter.unusedVariables false
set_option linter.unusedSimpArgs false
theorem sub_at (cs : List Value) (o n q : Nat) (hq : q < n) : ((cs.drop o).take n)[q]? = cs[o + q]? := by
  simp [List.getElem?_take, hq]
theorem one_at {cs : List Value} {o : Nat} {v : Value} (h : (cs.drop o).take 1 = [v]) : cs[o]? = some v := by
  have := sub_at cs o 1 0 (by decide)
  rw [h] at this
  simpa using this.symm
theorem reads_part {P : Program} {w : World} {fs : Array Field} {cs : List Value} (hf : ∀ (i : Nat) (f : Field), fs[i]? = some f → Reads P w f.type ((cs.drop f.offset).take (P.cellsOf f.type))) (i : Nat) (f : Field) (hi : fs[i]? = some f) (t : TypeId) (o n : Nat) (ht : f.type = t) (ho : f.offset = o) (hn : P.cellsOf t = n) : Reads P w t ((cs.drop o).take n) := by
  subst ht ho hn
  exact hf i f hi
/-- A key's five numbers. -/
def KWf (y0 y1 y2 y3 y4 : Int) : Prop := (Lit.int .i64 y0).wf = true ∧ (Lit.int .i64 y1).wf = true ∧ (Lit.int .i64 y2).wf = true ∧ (Lit.int .i64 y3).wf = true ∧ (Lit.int .u32 y4).wf = true
set_option maxRecDepth 100000 in
theorem key_read {w : World} {cs : List Value} (hr : Reads Tryd.prog w 27 cs) : ∃ y0 y1 y2 y3 y4, cs = [.int .i64 y0, .int .i64 y1, .int .i64 y2, .int .i64 y3, .int .u32 y4] ∧ KWf y0 y1 y2 y3 y4 := by
  have e3 : Tryd.prog.cellsOf 27 = 5 := by kernel_rfl
  obtain ⟨hl, _⟩ := hr.struct Tryd.underlying27
  rw [e3] at hl
  obtain ⟨v0, g0, r0⟩ := hr.cell Tryd.underlying27 0 _ rfl (by kernel_rfl) (by rw [e3]; decide)
  obtain ⟨v1, g1, r1⟩ := hr.cell Tryd.underlying27 1 _ rfl (by kernel_rfl) (by rw [e3]; decide)
  obtain ⟨v2, g2, r2⟩ := hr.cell Tryd.underlying27 2 _ rfl (by kernel_rfl) (by rw [e3]; decide)
  obtain ⟨v3, g3, r3⟩ := hr.cell Tryd.underlying27 3 _ rfl (by kernel_rfl) (by rw [e3]; decide)
  obtain ⟨v4, g4, r4⟩ := hr.cell Tryd.underlying27 4 _ rfl (by kernel_rfl) (by rw [e3]; decide)
  obtain ⟨y0, e0, w0⟩ := r0.int Tryd.underlying3
  obtain ⟨y1, e1, w1⟩ := r1.int Tryd.underlying3
  obtain ⟨y2, e2, w2⟩ := r2.int Tryd.underlying3
  obtain ⟨y3, e3', w3⟩ := r3.int Tryd.underlying3
  obtain ⟨y4, e4, w4⟩ := r4.int Tryd.underlying22
  simp only [List.cons.injEq, and_true] at e0 e1 e2 e3' e4
  subst e0 e1 e2 e3' e4
  refine ⟨y0, y1, y2, y3, y4, ?_, w0, w1, w2, w3, w4⟩
  match cs, hl with
  | [c0, c1, c2, c3, c4], _ =>
    simp at g0 g1 g2 g3 g4
    rw [g0, g1, g2, g3, g4]
/-- A key among cells. -/
structure KyIn (cs : List Value) (o : Nat) (y0 y1 y2 y3 y4 : Int) : Prop where
  k0 : cs[o]? = some (.int .i64 y0)
  k1 : cs[o + 1]? = some (.int .i64 y1)
  k2 : cs[o + 2]? = some (.int .i64 y2)
  k3 : cs[o + 3]? = some (.int .i64 y3)
  k4 : cs[o + 4]? = some (.int .u32 y4)
  wf : KWf y0 y1 y2 y3 y4
theorem kyin_read {w : World} {cs cs' : List Value} {o : Nat} (hr : Reads Tryd.prog w 27 cs') (h : ∀ q, q < 5 → cs'[q]? = cs[o + q]?) : ∃ y : Nat → Int, KyIn cs o (y 0) (y 1) (y 2) (y 3) (y 4) := by
  obtain ⟨y0, y1, y2, y3, y4, rfl, hw⟩ := key_read hr
  exact ⟨fun q => [y0, y1, y2, y3, y4].getD q 0, (h 0 (by decide)).symm, (h 1 (by decide)).symm, (h 2 (by decide)).symm, (h 3 (by decide)).symm, (h 4 (by decide)).symm, hw⟩
/-- A domain's cells, by their kinds. -/
structure DomV (cs : List Value) (f : Nat → Value) (R : Nat → Int) (K : Nat → Nat → Int) : Prop where
  len : cs.length = 107
  cell : ∀ j, j < 107 → cs[j]? = some (f j)
  reg : ∀ q, q < 8 → f q = .int .u32 (R q) ∧ 0 ≤ R q ∧ R q ≤ 4294967295
  pc : ∃ p, f 8 = .int .u32 p
  st : ∃ p, f 9 = .int .i64 p
  ft : ∃ p, f 10 = .int .i64 p
  key : ∀ j, j < 19 → KF f j (K j 0) (K j 1) (K j 2) (K j 3) (K j 4)
  kwf : ∀ j, j < 19 → KWf (K j 0) (K j 1) (K j 2) (K j 3) (K j 4)
  wt : ∃ p, f 106 = .int .i64 p
theorem u32_bd {x : Int} (h : (Lit.int .u32 x).wf = true) : 0 ≤ x ∧ x ≤ 4294967295 := by
  simp [Lit.wf, IntKind.min, IntKind.max, IntKind.signed, IntKind.bits] at h
  omega
set_option maxRecDepth 100000 in
theorem dom_read {w : World} {cs : List Value} (hr : Reads Tryd.prog w 30 cs) : ∃ f R K, DomV cs f R K := by
  have eD : Tryd.prog.cellsOf 30 = 107 := by kernel_rfl
  have eF : Tryd.prog.cellsOf 25 = 11 := by kernel_rfl
  have eR : Tryd.prog.cellsOf 23 = 8 := by kernel_rfl
  have eS : Tryd.prog.cellsOf 28 = 80 := by kernel_rfl
  have eK : Tryd.prog.cellsOf 27 = 5 := by kernel_rfl
  have eU : Tryd.prog.cellsOf 22 = 1 := by kernel_rfl
  have eI : Tryd.prog.cellsOf 3 = 1 := by kernel_rfl
  obtain ⟨hl, hf⟩ := hr.struct Tryd.underlying30
  rw [eD] at hl
  have r0 : Reads Tryd.prog w 25 ((cs.drop 0).take 11) := reads_part hf 0 _ rfl _ _ _ rfl rfl eF
  have r1 : Reads Tryd.prog w 28 ((cs.drop 11).take 80) := reads_part hf 1 _ rfl _ _ _ rfl rfl eS
  have r2 : Reads Tryd.prog w 27 ((cs.drop 91).take 5) := reads_part hf 2 _ rfl _ _ _ rfl rfl eK
  have r3 : Reads Tryd.prog w 27 ((cs.drop 96).take 5) := reads_part hf 3 _ rfl _ _ _ rfl rfl eK
  have r4 : Reads Tryd.prog w 27 ((cs.drop 101).take 5) := reads_part hf 4 _ rfl _ _ _ rfl rfl eK
  have r5 : Reads Tryd.prog w 3 ((cs.drop 106).take 1) := reads_part hf 5 _ rfl _ _ _ rfl rfl eI
  obtain ⟨_, hg⟩ := r0.struct Tryd.underlying25
  have s0 : Reads Tryd.prog w 23 ((((cs.drop 0).take 11).drop 0).take 8) := reads_part hg 0 _ rfl _ _ _ rfl rfl eR
  have s1 : Reads Tryd.prog w 22 ((((cs.drop 0).take 11).drop 8).take 1) := reads_part hg 1 _ rfl _ _ _ rfl rfl eU
  have s2 : Reads Tryd.prog w 3 ((((cs.drop 0).take 11).drop 9).take 1) := reads_part hg 2 _ rfl _ _ _ rfl rfl eI
  have s3 : Reads Tryd.prog w 3 ((((cs.drop 0).take 11).drop 10).take 1) := reads_part hg 3 _ rfl _ _ _ rfl rfl eI
  have hreg : ∀ q, q < 8 → ∃ x : Int, cs[q]? = some (.int .u32 x) ∧ 0 ≤ x ∧ x ≤ 4294967295 := fun q hq => by
    have h := s0.array Tryd.underlying23 q hq
    rw [eU] at h
    obtain ⟨x, hx, hw⟩ := h.int Tryd.underlying22
    have h1 := one_at hx
    rw [Nat.mul_one, sub_at _ 0 8 q hq] at h1
    rw [sub_at _ 0 11 _ (by omega)] at h1
    simp at h1
    exact ⟨x, h1, u32_bd hw⟩
  have hkey : ∀ j, j < 19 → ∃ y : Nat → Int, KyIn cs (11 + j * 5) (y 0) (y 1) (y 2) (y 3) (y 4) := fun j hj => by
    by_cases h16 : j < 16
    · have h := r1.array Tryd.underlying28 j h16
      rw [eK] at h
      exact kyin_read h (fun q hq => by rw [sub_at _ (j * 5) 5 q hq, sub_at _ 11 80 _ (by omega)]; congr 1; omega)
    · have h3 : j = 16 ∨ j = 17 ∨ j = 18 := by omega
      rcases h3 with rfl | rfl | rfl
      · exact kyin_read r2 (fun q hq => sub_at _ 91 5 q hq)
      · exact kyin_read r3 (fun q hq => sub_at _ 96 5 q hq)
      · exact kyin_read r4 (fun q hq => sub_at _ 101 5 q hq)
  obtain ⟨p8, x8, _⟩ := s1.int Tryd.underlying22
  obtain ⟨p9, x9, _⟩ := s2.int Tryd.underlying3
  obtain ⟨p10, x10, _⟩ := s3.int Tryd.underlying3
  obtain ⟨p106, x106, _⟩ := r5.int Tryd.underlying3
  have e8 := one_at x8
  have e9 := one_at x9
  have e10 := one_at x10
  have e106 := one_at x106
  rw [sub_at _ 0 11 _ (by decide)] at e8 e9 e10
  have R : ∀ q, ∃ x : Int, q < 8 → cs[q]? = some (.int .u32 x) ∧ 0 ≤ x ∧ x ≤ 4294967295 := fun q => by
    by_cases h : q < 8
    · obtain ⟨x, hx⟩ := hreg q h; exact ⟨x, fun _ => hx⟩
    · exact ⟨0, fun h' => absurd h' h⟩
  have K : ∀ j, ∃ y : Nat → Int, j < 19 → KyIn cs (11 + j * 5) (y 0) (y 1) (y 2) (y 3) (y 4) := fun j => by
    by_cases h : j < 19
    · obtain ⟨y, hy⟩ := hkey j h; exact ⟨y, fun _ => hy⟩
    · exact ⟨fun _ => 0, fun h' => absurd h' h⟩
  obtain ⟨Rf, hR⟩ := Classical.axiomOfChoice R
  obtain ⟨Kf, hK⟩ := Classical.axiomOfChoice K
  have gd : ∀ j v, cs[j]? = some v → cs.getD j (.int .i64 0) = v := fun j v h => by simp [List.getD, h]
  refine ⟨fun j => cs.getD j (.int .i64 0), Rf, Kf, hl, fun j hj => by simp [List.getD, hl, hj], fun q hq => ⟨gd q _ (hR q hq).1, (hR q hq).2⟩, ⟨p8, gd _ _ e8⟩, ⟨p9, gd _ _ e9⟩, ⟨p10, gd _ _ e10⟩, fun j hj => ?_, fun j hj => (hK j hj).wf, ⟨p106, gd _ _ e106⟩⟩
  have h := hK j hj
  exact ⟨gd _ _ h.k0, gd _ _ h.k1, gd _ _ h.k2, gd _ _ h.k3, gd _ _ h.k4⟩
end Go.Proofs.YtjkbfhojjjkgnaaDoor
namespace Go.Proofs.YtjkbfhojjjkgnaaDoor
open Go.ChangeShapes Go.WideShapes Go.ChangeAt Go.RowKit
set_option linter.unusedVariables false
set_option linter.unusedSimpArgs false
/-- A key's cells. -/
def InO (w : World) (g o : Nat) (y0 y1 y2 y3 y4 : Int) : Prop := w.cell? ⟨g, o, none⟩ = some (.int .i64 y0) ∧ w.cell? ⟨g, o + 1, none⟩ = some (.int .i64 y1) ∧ w.cell? ⟨g, o + 2, none⟩ = some (.int .i64 y2) ∧ w.cell? ⟨g, o + 3, none⟩ = some (.int .i64 y3) ∧ w.cell? ⟨g, o + 4, none⟩ = some (.int .u32 y4)
theorem InO.below {w w' : World} {g o : Nat} {y0 y1 y2 y3 y4 : Int} (h : InO w g o y0 y1 y2 y3 y4) (hb : Below w.heap.size w w') (hl : g < w.heap.size) : InO w' g o y0 y1 y2 y3 y4 :=
  ⟨(hb.cell (p := ⟨g, o, none⟩) hl).trans h.1, (hb.cell (p := ⟨g, o + 1, none⟩) hl).trans h.2.1, (hb.cell (p := ⟨g, o + 2, none⟩) hl).trans h.2.2.1, (hb.cell (p := ⟨g, o + 3, none⟩) hl).trans h.2.2.2.1, (hb.cell (p := ⟨g, o + 4, none⟩) hl).trans h.2.2.2.2⟩
theorem samekey_self (y0 y1 y2 y3 y4 : Int) (w : World) : Calls Tryd.prog 24 #[(Value.agg #[.int .i64 y0, .int .i64 y1, .int .i64 y2, .int .i64 y3, .int .u32 y4]), (Value.agg #[.int .i64 y0, .int .i64 y1, .int .i64 y2, .int .i64 y3, .int .u32 y4])] w fun e w' => e = .returned (.bool true) ∧ Below w.heap.size w w' :=
  (samekey_any y0 y1 y2 y3 y4 y0 y1 y2 y3 y4 w).mono fun e w' ⟨h1, h2⟩ => ⟨by rw [h1]; simp [sameB], h2⟩
theorem keepSKO {W w w' : World} {gu ou gv ov q : Nat} {x0 x1 x2 x3 x4 : Int} (hu : gu < W.heap.size) (hv : gv < W.heap.size) (h : Below W.heap.size W w ∧ (w.cell? ⟨gu, ou + q * 5, none⟩ = some (.int .i64 x0) ∧ w.cell? ⟨gu, ou + q * 5 + 1, none⟩ = some (.int .i64 x1) ∧ w.cell? ⟨gu, ou + q * 5 + 2, none⟩ = some (.int .i64 x2) ∧ w.cell? ⟨gu, ou + q * 5 + 3, none⟩ = some (.int .i64 x3) ∧ w.cell? ⟨gu, ou + q * 5 + 4, none⟩ = some (.int .u32 x4)) ∧ (w.cell? ⟨gv, ov + q * 5, none⟩ = some (.int .i64 x0) ∧ w.cell? ⟨gv, ov + q * 5 + 1, none⟩ = some (.int .i64 x1) ∧ w.cell? ⟨gv, ov + q * 5 + 2, none⟩ = some (.int .i64 x2) ∧ w.cell? ⟨gv, ov + q * 5 + 3, none⟩ = some (.int .i64 x3) ∧ w.cell? ⟨gv, ov + q * 5 + 4, none⟩ = some (.int .u32 x4))) (hb : Below w.heap.size w w') : Below W.heap.size W w' ∧ (w'.cell? ⟨gu, ou + q * 5, none⟩ = some (.int .i64 x0) ∧ w'.cell? ⟨gu, ou + q * 5 + 1, none⟩ = some (.int .i64 x1) ∧ w'.cell? ⟨gu, ou + q * 5 + 2, none⟩ = some (.int .i64 x2) ∧ w'.cell? ⟨gu, ou + q * 5 + 3, none⟩ = some (.int .i64 x3) ∧ w'.cell? ⟨gu, ou + q * 5 + 4, none⟩ = some (.int .u32 x4)) ∧ (w'.cell? ⟨gv, ov + q * 5, none⟩ = some (.int .i64 x0) ∧ w'.cell? ⟨gv, ov + q * 5 + 1, none⟩ = some (.int .i64 x1) ∧ w'.cell? ⟨gv, ov + q * 5 + 2, none⟩ = some (.int .i64 x2) ∧ w'.cell? ⟨gv, ov + q * 5 + 3, none⟩ = some (.int .i64 x3) ∧ w'.cell? ⟨gv, ov + q * 5 + 4, none⟩ = some (.int .u32 x4)) :=
  ⟨h.1.trans (hb.mono h.1.size), InO.below (o := ou + q * 5) h.2.1 hb (Nat.lt_of_lt_of_le hu h.1.size), InO.below (o := ov + q * 5) h.2.2 hb (Nat.lt_of_lt_of_le hv h.1.size)⟩
set_option maxRecDepth 100000 in
set_option maxHeartbeats 4000000 in
theorem samekeys_off (gu ou gv ov L cu cv : Nat) (x : Nat → Nat → Int) (w : World) (hu : gu < w.heap.size) (hv : gv < w.heap.size) (h : ∀ q, q < L → InO w gu (ou + q * 5) (x q 0) (x q 1) (x q 2) (x q 3) (x q 4) ∧ InO w gv (ov + q * 5) (x q 0) (x q 1) (x q 2) (x q 3) (x q 4)) (h64 : L ≤ 64) :
    Calls Tryd.prog 17 #[.slice (some ⟨gu, ou, none⟩) L cu, .slice (some ⟨gv, ov, none⟩) L cv] w fun e w' => e = .returned (.bool true) ∧ Below w.heap.size w w' := by
  have H := Lib.hid h
  clear h
  go_enter Tryd.func17, Tryd.ntmps17
  have hLL : ((L : Int) != L) = false := by simp
  go_wp2_with fail
  go_loopw [5] (fun z wr => ∃ q : Nat, q ≤ L ∧ z = .int .i64 q ∧ Below w.heap.size w wr) (fun z _ => L - (intOf z).toNat)
  case atStart => exact ⟨0, by omega, rfl, Below.refl _ _⟩
  case round =>
    obtain ⟨q, hq, rfl, hb⟩ := hrel
    have HB := Lib.hid hb
    clear hb
    by_cases hlt : q < L
    · obtain ⟨h1, h2⟩ := H.out q hlt
      have q0 : (0 : Int) ≤ q := by omega
      have q1 : (q : Int) < L := by omega
      have h1' := h1.below HB.out hu
      have h2' := h2.below HB.out hv
      have HU : Hid (gu < wr.heap.size ∧ gv < wr.heap.size) := Lib.hid ⟨Nat.lt_of_lt_of_le hu HB.out.size, Nat.lt_of_lt_of_le hv HB.out.size⟩
      clear h1 h2
      generalize x q 0 = x0 at h1' h2'
      generalize x q 1 = x1 at h1' h2'
      generalize x q 2 = x2 at h1' h2'
      generalize x q 3 = x3 at h1' h2'
      generalize x q 4 = x4 at h1' h2'
      have ST : Hid (Below wr.heap.size wr wr.drew ∧ (wr.drew.cell? ⟨gu, ou + q * 5, none⟩ = some (.int .i64 x0) ∧ wr.drew.cell? ⟨gu, ou + q * 5 + 1, none⟩ = some (.int .i64 x1) ∧ wr.drew.cell? ⟨gu, ou + q * 5 + 2, none⟩ = some (.int .i64 x2) ∧ wr.drew.cell? ⟨gu, ou + q * 5 + 3, none⟩ = some (.int .i64 x3) ∧ wr.drew.cell? ⟨gu, ou + q * 5 + 4, none⟩ = some (.int .u32 x4)) ∧ (wr.drew.cell? ⟨gv, ov + q * 5, none⟩ = some (.int .i64 x0) ∧ wr.drew.cell? ⟨gv, ov + q * 5 + 1, none⟩ = some (.int .i64 x1) ∧ wr.drew.cell? ⟨gv, ov + q * 5 + 2, none⟩ = some (.int .i64 x2) ∧ wr.drew.cell? ⟨gv, ov + q * 5 + 3, none⟩ = some (.int .i64 x3) ∧ wr.drew.cell? ⟨gv, ov + q * 5 + 4, none⟩ = some (.int .u32 x4))) := Lib.hid ⟨(Below.refl _ _).drew, h1'.below (Below.refl _ _).drew HU.out.1, h2'.below (Below.refl _ _).drew HU.out.2⟩
      clear h1' h2'
      go_upto_region 6 with fail
      go_region_held3 (fun w' => Below wr.heap.size wr w' ∧ (w'.cell? ⟨gu, ou + q * 5, none⟩ = some (.int .i64 x0) ∧ w'.cell? ⟨gu, ou + q * 5 + 1, none⟩ = some (.int .i64 x1) ∧ w'.cell? ⟨gu, ou + q * 5 + 2, none⟩ = some (.int .i64 x2) ∧ w'.cell? ⟨gu, ou + q * 5 + 3, none⟩ = some (.int .i64 x3) ∧ w'.cell? ⟨gu, ou + q * 5 + 4, none⟩ = some (.int .u32 x4)) ∧ (w'.cell? ⟨gv, ov + q * 5, none⟩ = some (.int .i64 x0) ∧ w'.cell? ⟨gv, ov + q * 5 + 1, none⟩ = some (.int .i64 x1) ∧ w'.cell? ⟨gv, ov + q * 5 + 2, none⟩ = some (.int .i64 x2) ∧ w'.cell? ⟨gv, ov + q * 5 + 3, none⟩ = some (.int .i64 x3) ∧ w'.cell? ⟨gv, ov + q * 5 + 4, none⟩ = some (.int .u32 x4))) (first | exact ST.out | exact keepSKO HU.out.1 HU.out.2 (by assumption) hb)
        (first | (go_at_call 24; (with_reducible refine (samekey_self x0 x1 x2 x3 x4 _).mono ?_); rintro e w' ⟨rfl, hb⟩))
      have hS : Below wr.heap.size wr w' ∧ (w'.cell? ⟨gu, ou + q * 5, none⟩ = some (.int .i64 x0) ∧ w'.cell? ⟨gu, ou + q * 5 + 1, none⟩ = some (.int .i64 x1) ∧ w'.cell? ⟨gu, ou + q * 5 + 2, none⟩ = some (.int .i64 x2) ∧ w'.cell? ⟨gu, ou + q * 5 + 3, none⟩ = some (.int .i64 x3) ∧ w'.cell? ⟨gu, ou + q * 5 + 4, none⟩ = some (.int .u32 x4)) ∧ (w'.cell? ⟨gv, ov + q * 5, none⟩ = some (.int .i64 x0) ∧ w'.cell? ⟨gv, ov + q * 5 + 1, none⟩ = some (.int .i64 x1) ∧ w'.cell? ⟨gv, ov + q * 5 + 2, none⟩ = some (.int .i64 x2) ∧ w'.cell? ⟨gv, ov + q * 5 + 3, none⟩ = some (.int .i64 x3) ∧ w'.cell? ⟨gv, ov + q * 5 + 4, none⟩ = some (.int .u32 x4)) := by assumption
      obtain ⟨hB, -⟩ := hS
      have HB2 := Lib.hid hB
      clear hB
      go_wp2_with fail
      go_roundw
      case rel => exact ⟨q + 1, by omega, by go_num, HB.out.trans (HB2.out.mono HB.out.size)⟩
      case measure => simp [intOf]; omega
    · obtain rfl : q = L := by omega
      have hqq : decide (q < q) = false := by simp
      go_wp2_with fail
      go_ret
      exact ⟨rfl, HB.out⟩
end Go.Proofs.YtjkbfhojjjkgnaaDoor
namespace Go.Proofs.YtjkbfhojjjkgnaaDoor
open Go.ChangeShapes Go.WideShapes Go.ChangeAt Go.RowKit
set_option linter.unusedVariables false
set_option linter.unusedSimpArgs false
/-- The words: none an instruction. -/
def zsF : List Int := [0, 2147483648]
theorem zsF_at (x : Nat) : (zsF.getD x 0 = 0) ∨ (zsF.getD x 0 = 2147483648) := by
  have h3 : x = 0 ∨ x = 1 ∨ 2 ≤ x := by omega
  rcases h3 with rfl | rfl | h
  · exact .inl rfl
  · exact .inr rfl
  · refine .inl ?_
    rw [List.getD_eq_getElem?_getD, List.getElem?_eq_none (by simp [zsF]; omega)]
    rfl
theorem noWord {z : Int} (h : z = 0 ∨ z = 2147483648) : ∃ p0 p1 p2 p3 p4, PartsC z p0 p1 p2 p3 p4 ∧ okB p0 p1 p2 p3 p4 = false ∧ 0 ≤ z ∧ z ≤ 4294967295 := by
  rcases h with rfl | rfl
  · exact ⟨0, 0, 0, 0, 0, by unfold PartsC; omega, by decide, by decide, by decide⟩
  · exact ⟨128, 0, 0, 0, 0, by unfold PartsC; omega, by decide, by decide, by decide⟩
/-- Behind the two pages: nothing. -/
theorem way_void {a b : Shp} {W : Nat → Nat → Value} {W2 : Nat → Nat → Int} {zs : List Int} (h : M17 a b W W2 zs) (q s ad : Nat) (hq : q < 16) (hq2 : 2 ≤ q) (hs : s < 32) (had : ad = q * 32 + s) : Way a b (upd (fun _ => false) 0 true) (fun _ => 0) W (upd (upd (fun _ => false) 0 true) 1 true) (fun _ => 0) 2 0 0 0 1 5 (ad : Int) false [0] 0 0 false 2 := by
  subst had
  exact way_r0 (way_at 1 0 q s 0 0 0 0 0 rfl (by decide) (by decide) (by simp) (by decide) rfl (by rw [h.an]; decide) rfl rfl hq (by simpa using hs) (h.kv q hq2 hq) (.fault 0 false _ 2 (by decide) ⟨by decide, by decide⟩ rfl (by simp [entP]) (by decide))) (by decide)
/-- Beyond a memory's end. -/
theorem way_range {a b : Shp} {W : Nat → Nat → Value} {W2 : Nat → Nat → Int} {zs : List Int} (h : M17 a b W W2 zs) (ad : Nat) (had : 512 ≤ ad) : Way a b (upd (fun _ => false) 0 true) (fun _ => 0) W (upd (upd (fun _ => false) 0 true) 1 true) (fun _ => 0) 2 0 0 0 1 5 (ad : Int) false [] 0 0 false 3 := by
  refine .fault 512 true true 3 (by decide) ⟨by decide, by decide⟩ ?_ ?_ (by decide)
  · simp [liveB, thereB, upd, h.an]
  · simp [entP]
    omega
theorem dom_boxed {w : World} {a0 : Array Value} {f : Nat → Value} {R : Nat → Int} {K : Nat → Nat → Int} (h : DomV a0.toList f R K) (T : TypeId) : DomAt (w.alloc (.cells a0 T (0, 0))) w.heap.size f := by
  have hs : a0.size = 107 := by have := h.len; simpa using this
  refine ⟨by simp, fun j hj => ?_, fun j => by simp⟩
  have := h.cell j hj
  simp at this
  simp [this]
/-- Cells of numbers. -/
def Ints (f : Nat → Value) : Prop := ∀ j, j < 107 → ∃ k n, f j = .int k n
theorem DomV.ints {cs : List Value} {f : Nat → Value} {R : Nat → Int} {K : Nat → Nat → Int} (h : DomV cs f R K) : Ints f := fun j hj => by
  by_cases h8 : j < 8
  · exact ⟨_, _, (h.reg j h8).1⟩
  · by_cases h11 : j < 11
    · have h3 : j = 8 ∨ j = 9 ∨ j = 10 := by omega
      rcases h3 with rfl | rfl | rfl
      · obtain ⟨p, e⟩ := h.pc; exact ⟨_, _, e⟩
      · obtain ⟨p, e⟩ := h.st; exact ⟨_, _, e⟩
      · obtain ⟨p, e⟩ := h.ft; exact ⟨_, _, e⟩
    · by_cases h106 : j < 106
      · obtain ⟨q, r, hq, hr, rfl⟩ : ∃ q r, q < 19 ∧ r < 5 ∧ j = 11 + q * 5 + r := ⟨(j - 11) / 5, (j - 11) % 5, by omega, by omega, by omega⟩
        have hk := h.key q hq
        have h5 : r = 0 ∨ r = 1 ∨ r = 2 ∨ r = 3 ∨ r = 4 := by omega
        rcases h5 with rfl | rfl | rfl | rfl | rfl
        · exact ⟨_, _, hk.k0⟩
        · exact ⟨_, _, hk.k1⟩
        · exact ⟨_, _, hk.k2⟩
        · exact ⟨_, _, hk.k3⟩
        · exact ⟨_, _, hk.k4⟩
      · obtain rfl : j = 106 := by omega
        obtain ⟨p, e⟩ := h.wt; exact ⟨_, _, e⟩
theorem Ints.upd {f : Nat → Value} (h : Ints f) (q : Nat) (k : IntKind) (n : Int) : Ints (updD f q (.int k n)) := fun j hj => by
  unfold updD
  split
  · exact ⟨_, _, rfl⟩
  · exact h j hj
theorem Ints.key {f : Nat → Value} (h : Ints f) (o : Nat) (y0 y1 y2 y3 y4 : Int) : Ints (updL f o (k5 y0 y1 y2 y3 y4)) := fun j hj => by
  unfold updL
  split
  · rename_i hc
    have hl : j - o < 5 := by simp only [k5, List.length_cons, List.length_nil] at hc; omega
    have h5 : j - o = 0 ∨ j - o = 1 ∨ j - o = 2 ∨ j - o = 3 ∨ j - o = 4 := by omega
    rcases h5 with e | e | e | e | e <;> rw [e] <;> exact ⟨_, _, rfl⟩
  · exact h j hj
/-- A domain whole, as an array. -/
theorem dom_array {f : Nat → Value} (h : Ints f) : ∃ cs : Array Value, cs.size = 107 ∧ cs.all (·.oneCell') = true ∧ (∀ w db, DomAt w db f → w.rangeAt db 0 cs.toList) ∧ ∀ j, j < 107 → cs.toList[j]? = some (f j) := by
  refine ⟨((List.range 107).map f).toArray, by simp, ?_, fun w db hd => ?_, fun j hj => by simp [hj]⟩
  · rw [Array.all_eq_true]
    intro i hi
    simp at hi
    obtain ⟨k, n, e⟩ := h i hi
    simp [e, Value.oneCell']
  · intro j u hj
    have hlt : j < 107 := by
      have := (List.getElem?_eq_some_iff.1 hj).1
      simpa using this
    have e : u = f j := by
      simp [hlt] at hj
      exact hj.symm
    rw [e]
    have := hd.c j hlt
    simpa using this
theorem CpAt.setsD {w0 : World} {mb S : Nat} {a b : Shp} {N cb : Nat} {th : Nat → Bool} {vr_ : Nat → Int} {W : Nat → Nat → Value} {th2 : Nat → Bool} {vr2 : Nat → Int} {W2 : Nat → Nat → Int} {hits : Int} {v : Value} {E : List EW} {db : Nat} {f : Nat → Value} {w : World} (h : (CpAt w0 w mb S a b N cb th vr_ W th2 vr2 W2 hits v E db f)) (o : Nat) (xs : List Value) (ho : o + xs.length ≤ 107) : CpAt w0 (w.setCells db o xs) mb S a b N cb th vr_ W th2 vr2 W2 hits v E db (updL f o xs) := ⟨MemAt.putsD h.ap xs o w h.m, h.el, h.h0, h.d.sets o xs ho, h.ap⟩
/-- A block that came later stays where memory and domain change. -/
structure FarD (w : World) (N cb : Nat) (v : Value) (db x : Nat) : Prop where
  lo : N ≤ x
  hi : x < w.heap.size
  nc : x ≠ cb
  nv : v.ownBlock ≠ some x
  nd : x ≠ db
theorem FarD.below {w w' : World} {N cb db x : Nat} {v : Value} (h : FarD w N cb v db x) (hb : Below w.heap.size w w') : FarD w' N cb v db x := ⟨h.lo, Nat.lt_of_lt_of_le h.hi hb.size, h.nc, h.nv, h.nd⟩
theorem FarD.next {w w' : World} {N cb db x : Nat} {v v' : Value} {E E' : List EW} (h : FarD w N cb v db x) (hk : CK w w' N cb v v' E E' db) : FarD w' N cb v' db x ∧ w'.heap[x]? = w.heap[x]? :=
  ⟨⟨h.lo, Nat.lt_of_lt_of_le h.hi hk.size, h.nc, hk.far h.hi h.nv, h.nd⟩, hk.keep x h.lo h.hi h.nc h.nv h.nd⟩
theorem CpAt.far {w0 : World} {mb S : Nat} {a b : Shp} {N cb : Nat} {th : Nat → Bool} {vr_ : Nat → Int} {W : Nat → Nat → Value} {th2 : Nat → Bool} {vr2 : Nat → Int} {W2 : Nat → Nat → Int} {hits : Int} {v : Value} {E : List EW} {db : Nat} {f : Nat → Value} {w w' : World} (h : (CpAt w0 w mb S a b N cb th vr_ W th2 vr2 W2 hits v E db f)) (x : Nat) (hx : w.heap.size ≤ x) (hb : Below w.heap.size w w') (hl : x < w'.heap.size) : FarD w' N cb v db x :=
  ⟨by have := h.m.nN; omega, hl, by have := h.m.ca.cl; omega, fun e => by have := (h.m.ca.row.lt _ e).2; omega, by have := h.d.lt; omega⟩
/-- Two domains' registers and keys. -/
theorem DomAt.regs {w : World} {db : Nat} {f : Nat → Value} {R : Nat → Int} (h : DomAt w db f) (hr : ∀ q, q < 8 → f q = .int .u32 (R q)) : RU w (some ⟨db, 0, none⟩) ((List.range 8).map R) := fun j hj => by
  have h8 : j < 8 := by simpa using hj
  refine ⟨_, rfl, h.lt, ?_⟩
  have e := h.c j (by omega)
  rw [hr j h8] at e
  have e2 : ((List.range 8).map R).getD j 0 = R j := by simp [List.getD, h8]
  rw [e2]
  by_cases h0 : j = 0
  · subst h0
    simpa [Addr.add] using e
  · simpa [Addr.add, h0] using e
theorem DomAt.keys {w : World} {db : Nat} {f : Nat → Value} {K : Nat → Nat → Int} (h : DomAt w db f) (hk : ∀ j, j < 16 → KF f j (K j 0) (K j 1) (K j 2) (K j 3) (K j 4)) : ∀ q, q < 16 → InO w db (11 + q * 5) (K q 0) (K q 1) (K q 2) (K q 3) (K q 4) := fun q hq => by
  have k := hk q hq
  exact ⟨(h.c _ (by omega)).trans (by rw [k.k0]), (h.c _ (by omega)).trans (by rw [k.k1]), (h.c _ (by omega)).trans (by rw [k.k2]), (h.c _ (by omega)).trans (by rw [k.k3]), (h.c _ (by omega)).trans (by rw [k.k4])⟩
end Go.Proofs.YtjkbfhojjjkgnaaDoor
