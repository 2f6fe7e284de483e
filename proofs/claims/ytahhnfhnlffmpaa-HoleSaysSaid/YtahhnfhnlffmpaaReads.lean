/-
  What came in, of whatever type: opened as deep as a walk wants it.
-/
import Derived.Test.YtahhnfhnlffmpaaStructs
namespace Go.Proofs.Ytahhnfhnlffmpaa
open Go.Joins Go.ChangeShapes Go.WideShapes Go.ChangeAt Go.RowKit Go.Deep
set_option linter.unusedVariables false
/-- These cells are read as a value of this type. -/
def Reads (P : Program) (w : World) (t : TypeId) (cs : List Value) : Prop := ∃ (H : Type) (enc : TypeId × Value → H) (base fuel : Nat) (held : Bool) (x : DataW H × List MemPlace), DataW.trod enc P w base (fun _ => true) held fuel t cs = some x
section
variable {P : Program} {w : World} {t e : TypeId} {cs : List Value}
theorem Reads.of {H : Type} {enc : TypeId × Value → H} {base : Nat} {held : Bool} {v : Value} {d : DataW H} {p : List MemPlace} (h : DataW.Trod enc P w base (fun _ => true) held t v d p) : Reads P w t v.cells.toList := by
  obtain ⟨fuel, hf⟩ := h
  exact ⟨H, enc, base, fuel, held, _, hf⟩
theorem Reads.int {k : IntKind} (ht : P.underlying t = some (.int k)) (h : Reads P w t cs) : ∃ n : Int, cs = [.int k n] ∧ (Lit.int k n).wf = true := by
  obtain ⟨H, enc, base, fuel, held, x, hf⟩ := h
  obtain ⟨n, e1, _, e2⟩ := DataW.trod_int ht hf
  exact ⟨n, e1, e2⟩
theorem Reads.bool (ht : P.underlying t = some .bool) (h : Reads P w t cs) : ∃ b : Bool, cs = [.bool b] := by
  obtain ⟨H, enc, base, fuel, held, x, hf⟩ := h
  obtain ⟨b, e1, _⟩ := DataW.trod_bool ht hf
  exact ⟨b, e1⟩
theorem Reads.string (ht : P.underlying t = some .string) (h : Reads P w t cs) : ∃ s : ByteArray, cs = [.string s] ∧ s.size ≤ maxLen := by
  obtain ⟨H, enc, base, fuel, held, x, hf⟩ := h
  obtain ⟨s, e1, _, e2⟩ := DataW.trod_string ht hf
  exact ⟨s, e1, e2⟩
theorem Reads.struct {fs : Array Field} (ht : P.underlying t = some (.struct fs)) (h : Reads P w t cs) : cs.length = P.cellsOf t ∧ ∀ (i : Nat) (f : Field), fs[i]? = some f → Reads P w f.type ((cs.drop f.offset).take (P.cellsOf f.type)) := by
  obtain ⟨H, enc, base, fuel, held, x, hf⟩ := h
  obtain ⟨xs, n, _, _, hl, hxl, hg⟩ := DataW.trod_struct ht hf
  refine ⟨hl, fun i f hi => ?_⟩
  have hlt : i < xs.length := by
    have := (Array.getElem?_eq_some_iff.1 hi).1
    omega
  exact ⟨H, enc, base, n, held, _, (hg i f hi).trans (List.getElem?_eq_getElem hlt)⟩
theorem Reads.array {n : Nat} (ht : P.underlying t = some (.array n e)) (h : Reads P w t cs) : ∀ i, i < n → Reads P w e ((cs.drop (i * P.cellsOf e)).take (P.cellsOf e)) := by
  obtain ⟨H, enc, base, fuel, held, x, hf⟩ := h
  obtain ⟨xs, m, _, _, _, hxl, hg⟩ := DataW.trod_array ht hf
  intro i hi
  exact ⟨H, enc, base, m, held, _, (hg i hi).trans (List.getElem?_eq_getElem (by omega))⟩
/-- A slice: nil, or each of its elements is read. -/
theorem Reads.slice {a : Option Addr} {len cap : Nat} (ht : P.underlying t = some (.slice e)) (h : Reads P w t [.slice a len cap]) :
    (a = none ∧ len = 0 ∧ cap = 0) ∨ ∃ x, a = some x ∧ len ≤ cap ∧ cap ≤ maxLen ∧ ∀ i, i < cap → ∃ cs', cs'.length = P.cellsOf e ∧ (∀ j v, cs'[j]? = some v → w.cell? (x.add (i * P.cellsOf e + j)) = some v) ∧ Reads P w e cs' := by
  obtain ⟨H, enc, base, fuel, held, x, hf⟩ := h
  rcases open_slice ht hf with ⟨h0, _⟩ | ⟨y, l, c, m, n, D, Pl, hcs, hb, hl, hm, hmm, hx, hi⟩
  · simp at h0
    exact .inl h0
  · simp at hcs
    obtain ⟨rfl, rfl, rfl⟩ := hcs
    have hmc : m = cap := by simpa using hmm
    refine .inr ⟨_, rfl, hl, hm, fun i hic => ?_⟩
    obtain ⟨cs', hc, ht'⟩ := hi i (by omega)
    obtain ⟨_, hcl, hat⟩ := World.cells?_some hc
    refine ⟨cs', hcl, fun j v hj => ?_, H, enc, base, n, held, _, ht'⟩
    have hjl : j < cs'.length := (List.getElem?_eq_some_iff.1 hj).1
    rw [← Go.Deep.add_add, hat j (by omega), hj]
theorem Reads.slice' {v : Value} (ht : P.underlying t = some (.slice e)) (h : Reads P w t [v]) : ∃ a len cap, v = .slice a len cap := by
  obtain ⟨H, enc, base, fuel, held, x, hf⟩ := h
  rcases open_slice ht hf with ⟨h0, _⟩ | ⟨y, l, c, m, n, D, Pl, hcs, hb, hl, hm, hmm, hx, hi⟩
  · simp at h0; exact ⟨_, _, _, h0⟩
  · simp at hcs; exact ⟨_, _, _, hcs⟩
theorem Reads.ints {k : IntKind} {a : Option Addr} {len cap : Nat} (ht : P.underlying t = some (.slice e)) (he : P.underlying e = some (.int k)) (hc : P.cellsOf e = 1) (h : Reads P w t [.slice a len cap]) : ∃ zs, IsRow k w a len cap zs := by
  obtain ⟨H, enc, base, fuel, held, x, hf⟩ := h
  rcases open_ints ht he hc hf with ⟨hcs, _⟩ | ⟨x, l, c, zs, hcs, _, hl, hm, hz, _, hcell, hwz⟩
  · simp at hcs
    obtain ⟨rfl, rfl, rfl⟩ := hcs
    exact ⟨[], .inl ⟨rfl, rfl, rfl, rfl⟩⟩
  · simp at hcs
    obtain ⟨rfl, rfl, rfl⟩ := hcs
    exact ⟨zs, .inr ⟨_, rfl, hl, hm, by simpa using hz, hcell, hwz⟩⟩
theorem Reads.rows {fs : Array Field} {a : Option Addr} {len cap : Nat} {ks : List IntKind} (ht : P.underlying t = some (.slice e)) (he : P.underlying e = some (.struct fs))
    (hone : oneCellFields P fs = true) (hC : P.cellsOf e = ks.length) (hfk : fs.size = ks.length) (hk : ∀ (j : Nat) (f : Field), fs[j]? = some f → ∃ k, ks[j]? = some k ∧ P.underlying f.type = some (.int k)) (h : Reads P w t [.slice a len cap]) : ∃ zs, IsRows ks w a len cap zs := by
  obtain ⟨H, enc, base, fuel, held, x, hf⟩ := h
  exact open_rows ht he hone hC hfk hk hf
/-- A field of one cell. -/
theorem Reads.cell {fs : Array Field} (ht : P.underlying t = some (.struct fs)) (h : Reads P w t cs) (i : Nat) (f : Field) (hf : fs[i]? = some f) (h1 : P.cellsOf f.type = 1) (ho : f.offset < P.cellsOf t) : ∃ v, cs[f.offset]? = some v ∧ Reads P w f.type [v] := by
  obtain ⟨hl, hg⟩ := h.struct ht
  have h2 := hg i f hf
  rw [h1] at h2
  have hlt : f.offset < cs.length := by omega
  refine ⟨cs[f.offset], List.getElem?_eq_getElem hlt, ?_⟩
  have e : (cs.drop f.offset).take 1 = [cs[f.offset]] := by
    rw [List.drop_eq_getElem_cons hlt]
    rfl
  rwa [e] at h2
end
end Go.Proofs.Ytahhnfhnlffmpaa
