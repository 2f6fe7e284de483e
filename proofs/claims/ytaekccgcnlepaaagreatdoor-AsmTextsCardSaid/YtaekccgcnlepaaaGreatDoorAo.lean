/-
  From the rows' conditions to what package asm reads of the program's own memory.
-/
import Derived.Test.YtaekccgcnlepaaaGreatDoorLt
import Derived.Test.YtaekccgcnlepaaaGreatDoorCl
namespace Go.Proofs.YtaekccgcnlepaaaGreatDoor
open Go.ChangeShapes Go.WideShapes Go.ChangeAt Go.RowKit
set_option linter.unusedVariables false
set_option linter.unusedSimpArgs false
/-- A listed array of pairs of texts: what its cells hold. -/
theorem rows2_of_head {P : Program} {W : World} {name : String} {l : List (List UInt8 × List UInt8)} {rest : List (String × DataW Unit)} {g : Nat} {t e ts : TypeId} {n : Nat} {f0 f1 : Field}
    (hg : P.globalNamed name = some g) (hty : (P.globals[g]?).map (·.type) = some t) (ht : P.underlying t = some (.array n e)) (he : P.underlying e = some (.struct #[f0, f1])) (hce : P.cellsOf e = 2)
    (hs : P.underlying ts = some .string) (cs1 : P.cellsOf ts = 1)
    (o0 : f0.type = ts ∧ f0.offset = 0) (o1 : f1.type = ts ∧ f1.offset = 1)
    (h : laidMet P ((name, .agg (l.map fun r => .agg [.lit (.string r.1), .lit (.string r.2)])) :: rest) W) :
    ∀ i r, l[i]? = some r → W.cell? ⟨g, i * 2, none⟩ = some (.string ⟨r.1.toArray⟩) ∧ W.cell? ⟨g, i * 2 + 1, none⟩ = some (.string ⟨r.2.toArray⟩) := by
  obtain ⟨ps, ⟨g', t', cs, fuel, p, q, hg', ht', hvar, hd, _, _⟩, _⟩ := h
  obtain rfl := Option.some.inj (hg.symm.trans hg')
  obtain rfl := Option.some.inj (hty.symm.trans ht')
  obtain ⟨xs, m, _, hx, hlen, hxl, hat⟩ := DataW.trod_array ht hd
  simp only [Prod.mk.injEq, DataW.agg.injEq] at hx
  intro i r hr
  have hln : l.length = n := by
    have := congrArg List.length hx.1
    simp at this; omega
  have hil : i < l.length := by
    rcases Nat.lt_or_ge i l.length with h' | h'
    · exact h'
    · rw [List.getElem?_eq_none h'] at hr; exact absurd hr (by simp)
  have h1 := hat i (by omega)
  rw [hce] at h1
  have hxi : xs[i]? = some (xs[i]'(by omega)) := List.getElem?_eq_getElem (by omega)
  rw [hxi] at h1
  have h2 : (xs.map (·.1))[i]? = some (xs[i]'(by omega)).1 := by rw [List.getElem?_map, hxi]; rfl
  rw [← hx.1, List.getElem?_map, hr] at h2
  have h3 := Option.some.inj h2
  obtain ⟨ys, k, _, hy, _, hyl, hf⟩ := DataW.trod_struct he h1
  rw [hy] at h3
  simp only [DataW.agg.injEq] at h3
  have q0 := hf 0 f0 rfl
  have q1 := hf 1 f1 rfl
  match ys, hyl with
  | [y0, y1], _ =>
    simp only [List.map_cons, List.map_nil, List.cons.injEq, and_true] at h3
    simp only [List.getElem?_cons_zero, List.getElem?_cons_succ] at q0 q1
    rw [o0.1, o0.2, cs1] at q0
    rw [o1.1, o1.2, cs1] at q1
    obtain ⟨s, e1, e2, _⟩ := DataW.trod_string hs q0
    obtain ⟨s2, d1, d2, _⟩ := DataW.trod_string hs q1
    obtain ⟨z0, z1⟩ := h3
    rw [e2] at z0
    rw [d2] at z1
    simp at z0 z1
    have w0 := World.var?_cell hg hvar
    have c0 := piece_at (by decide) e1
    have c1 := piece_at (by decide) d1
    rw [Array.getElem?_toList] at c0 c1
    refine ⟨?_, ?_⟩
    · rw [w0, show i * 2 = i * 2 + 0 from rfl, c0, bytes_of (s := s) z0.symm]
    · rw [w0, c1, bytes_of (s := s2) z1.symm]
def aL : List (List UInt8 × List UInt8) := fNm.zip aWd
theorem aL_at : ∀ n : Fin 14, aL[n.val]? = some (fNm.getD n.val [], aWd.getD n.val []) := by decide +kernel
theorem gAForms : Tryz.prog.globalNamed "turnkey/asm.forms" = some 3 := by kernel_rfl
theorem tAForms : (Tryz.prog.globals[3]?).map (·.type) = some 104 := by kernel_rfl
theorem cAForm : Tryz.prog.cellsOf 103 = 2 := by kernel_rfl
theorem gAMan : Tryz.prog.globalNamed "turnkey/asm.manners" = some 7 := by kernel_rfl
theorem tAMan : (Tryz.prog.globals[7]?).map (·.type) = some 124 := by kernel_rfl
theorem cAMan : Tryz.prog.cellsOf 124 = 3 := by kernel_rfl
theorem gWNm2 : Tryz.prog.globalNamed "turnkey/word.names" = some 17 := by kernel_rfl
theorem tWNm2 : (Tryz.prog.globals[17]?).map (·.type) = some 133 := by kernel_rfl
theorem cWNm2 : Tryz.prog.cellsOf 133 = 12 := by kernel_rfl
theorem formsL_at' (j : Nat) (hj : j < 28) : ((List.range 28).map fun j => if j % 2 = 0 then Value.string (nmA (j / 2)) else .string (wdA (j / 2)))[j]? = some (if j % 2 = 0 then .string (nmA (j / 2)) else .string (wdA (j / 2))) := by simp [hj]
theorem asm_of {l : List (String × DataW Unit)} {w : World} (h : laidMet Tryz.prog l w) (hS : Sen5 (fun g => atErr w g) w)
    (hC : CodeAt (errC (atErr w 4)) (errC (atErr w 5)) w)
    (hw : ("turnkey/word.names", DataW.agg (wNm.map fun s => .lit (.string s))) ∈ l) (hm : ("turnkey/asm.manners", DataW.agg (mNm.map fun s => .lit (.string s))) ∈ l)
    (hf : ("turnkey/asm.forms", DataW.agg (aL.map fun r => .agg [.lit (.string r.1), .lit (.string r.2)])) ∈ l) : AsmAt (fun g => atErr w g) w := by
  have h1 := texts_of_head (l := mNm) (rest := []) gAMan tAMan Tryz.underlying124 Tryz.underlying9 strCells cAMan (laid_mem h hm)
  have h2 := texts_of_head (l := wNm) (rest := []) gWNm2 tWNm2 Tryz.underlying133 Tryz.underlying9 strCells cWNm2 (laid_mem h hw)
  have h3 := rows2_of_head (l := aL) (rest := []) gAForms tAForms Tryz.underlying104 Tryz.underlying103 cAForm Tryz.underlying9 strCells ⟨rfl, rfl⟩ ⟨rfl, rfl⟩ (laid_mem h hf)
  refine ⟨in_heap (h3 0 _ (aL_at ⟨0, by decide⟩)).1, fun j v hv => ?_, in_heap (h1 0 (by decide)), h1, hS, hC, ⟨in_heap (h2 0 (by decide)), h2⟩⟩
  have hj : j < 28 := by
    rcases Nat.lt_or_ge j 28 with h' | h'
    · exact h'
    · rw [List.getElem?_eq_none (by simpa using h')] at hv
      cases hv
  rw [formsL_at' j hj] at hv
  injection hv with hv
  rw [Nat.zero_add, ← hv]
  have hk := h3 (j / 2) _ (aL_at ⟨j / 2, by omega⟩)
  by_cases he : j % 2 = 0
  · rw [if_pos he]
    have := hk.1
    rwa [show j / 2 * 2 = j by omega] at this
  · rw [if_neg he]
    have := hk.2
    rwa [show j / 2 * 2 + 1 = j by omega] at this
end Go.Proofs.YtaekccgcnlepaaaGreatDoor
