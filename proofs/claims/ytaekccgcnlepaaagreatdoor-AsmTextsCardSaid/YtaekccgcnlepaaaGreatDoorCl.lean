/-
  From the rows' conditions to the forms and their errors (no texts).
-/
import Derived.Test.YtaekccgcnlepaaaGreatDoorCodeW
namespace Go.Proofs.YtaekccgcnlepaaaGreatDoor
open Go.ChangeShapes Go.WideShapes Go.ChangeAt Go.RowKit
set_option linter.unusedVariables false
theorem piece_at {cs : List Value} {a k j : Nat} {v : Value} (hj : j < k) (h : (((cs.drop a).take k).drop j).take 1 = [v]) : cs[a + j]? = some v := by
  have := congrArg (fun l => l[0]?) h
  simpa [List.getElem?_take, List.getElem?_drop, hj] using this
/-- A listed array of structs of a text and four numbers: what its cells hold. -/
theorem rows5_of_head {P : Program} {W : World} {name : String} {l : List (List UInt8 × Int × Int × Int × Int)} {rest : List (String × DataW Unit)} {g : Nat} {t e ts ti : TypeId} {n : Nat} {f0 f1 f2 f3 f4 : Field}
    (hg : P.globalNamed name = some g) (hty : (P.globals[g]?).map (·.type) = some t) (ht : P.underlying t = some (.array n e)) (he : P.underlying e = some (.struct #[f0, f1, f2, f3, f4])) (hce : P.cellsOf e = 5)
    (hs : P.underlying ts = some .string) (hi : P.underlying ti = some (.int .i64)) (cs1 : P.cellsOf ts = 1) (ci1 : P.cellsOf ti = 1)
    (o0 : f0.type = ts ∧ f0.offset = 0) (o1 : f1.type = ti ∧ f1.offset = 1) (o2 : f2.type = ti ∧ f2.offset = 2) (o3 : f3.type = ti ∧ f3.offset = 3) (o4 : f4.type = ti ∧ f4.offset = 4)
    (h : laidMet P ((name, .agg (l.map fun r => .agg [.lit (.string r.1), .lit (.int .i64 r.2.1), .lit (.int .i64 r.2.2.1), .lit (.int .i64 r.2.2.2.1), .lit (.int .i64 r.2.2.2.2)])) :: rest) W) :
    ∀ i r, l[i]? = some r → W.cell? ⟨g, i * 5, none⟩ = some (.string ⟨r.1.toArray⟩) ∧ W.cell? ⟨g, i * 5 + 1, none⟩ = some (.int .i64 r.2.1) ∧ W.cell? ⟨g, i * 5 + 2, none⟩ = some (.int .i64 r.2.2.1) ∧ W.cell? ⟨g, i * 5 + 3, none⟩ = some (.int .i64 r.2.2.2.1) ∧ W.cell? ⟨g, i * 5 + 4, none⟩ = some (.int .i64 r.2.2.2.2) := by
  obtain ⟨ps, ⟨g', t', cs, fuel, p, q, hg', ht', hvar, hd, _, _⟩, _⟩ := h
  obtain rfl := Option.some.inj (hg.symm.trans hg')
  obtain rfl := Option.some.inj (hty.symm.trans ht')
  obtain ⟨xs, m, _, hx, hlen, hxl, hat⟩ := DataW.trod_array ht hd
  simp only [Prod.mk.injEq, DataW.agg.injEq] at hx
  intro i r hr
  have hln : l.length = n := by
    have := congrArg List.length hx.1
    simp at this; omega
  have hil : i < l.length := by
    rcases Nat.lt_or_ge i l.length with h' | h'
    · exact h'
    · rw [List.getElem?_eq_none h'] at hr; exact absurd hr (by simp)
  have h1 := hat i (by omega)
  rw [hce] at h1
  have hxi : xs[i]? = some (xs[i]'(by omega)) := List.getElem?_eq_getElem (by omega)
  rw [hxi] at h1
  have h2 : (xs.map (·.1))[i]? = some (xs[i]'(by omega)).1 := by rw [List.getElem?_map, hxi]; rfl
  rw [← hx.1, List.getElem?_map, hr] at h2
  have h3 := Option.some.inj h2
  obtain ⟨ys, k, _, hy, _, hyl, hf⟩ := DataW.trod_struct he h1
  rw [hy] at h3
  simp only [DataW.agg.injEq] at h3
  have q0 := hf 0 f0 rfl
  have q1 := hf 1 f1 rfl
  have q2 := hf 2 f2 rfl
  have q3 := hf 3 f3 rfl
  have q4 := hf 4 f4 rfl
  match ys, hyl with
  | [y0, y1, y2, y3, y4], _ =>
    simp only [List.map_cons, List.map_nil, List.cons.injEq, and_true] at h3
    simp only [List.getElem?_cons_zero, List.getElem?_cons_succ] at q0 q1 q2 q3 q4
    rw [o0.1, o0.2, cs1] at q0
    rw [o1.1, o1.2, ci1] at q1
    rw [o2.1, o2.2, ci1] at q2
    rw [o3.1, o3.2, ci1] at q3
    rw [o4.1, o4.2, ci1] at q4
    obtain ⟨s, e1, e2, _⟩ := DataW.trod_string hs q0
    obtain ⟨n1, a1, b1, _⟩ := DataW.trod_int hi q1
    obtain ⟨n2, a2, b2, _⟩ := DataW.trod_int hi q2
    obtain ⟨n3, a3, b3, _⟩ := DataW.trod_int hi q3
    obtain ⟨n4, a4, b4, _⟩ := DataW.trod_int hi q4
    obtain ⟨z0, z1, z2, z3, z4⟩ := h3
    rw [e2] at z0
    rw [b1] at z1
    rw [b2] at z2
    rw [b3] at z3
    rw [b4] at z4
    simp at z0 z1 z2 z3 z4
    have w0 := World.var?_cell hg hvar
    have c0 := piece_at (by decide) e1
    have c1 := piece_at (by decide) a1
    have c2 := piece_at (by decide) a2
    have c3 := piece_at (by decide) a3
    have c4 := piece_at (by decide) a4
    rw [Array.getElem?_toList] at c0 c1 c2 c3 c4
    refine ⟨?_, ?_, ?_, ?_, ?_⟩
    · rw [w0, show i * 5 = i * 5 + 0 from rfl, c0, bytes_of (s := s) z0.symm]
    · rw [w0, c1, z1]
    · rw [w0, c2, z2]
    · rw [w0, c3, z3]
    · rw [w0, c4, z4]
def fL : List (List UInt8 × Int × Int × Int × Int) := fNm.zip (fA.zip (fB.zip (fC.zip fI)))
theorem fL_at : ∀ n : Fin 14, fL[n.val]? = some (fNm.getD n.val [], fA.getD n.val 0, fB.getD n.val 0, fC.getD n.val 0, fI.getD n.val 0) := by decide +kernel
theorem gForms : Tryz.prog.globalNamed "turnkey/code.forms" = some 1 := by kernel_rfl
theorem tForms : (Tryz.prog.globals[1]?).map (·.type) = some 96 := by kernel_rfl
theorem cForm : Tryz.prog.cellsOf 95 = 5 := by kernel_rfl
theorem cInt : Tryz.prog.cellsOf 3 = 1 := by kernel_rfl
theorem in_heap {w : World} {g i : Nat} {v : Value} (h : w.cell? ⟨g, i, none⟩ = some v) : g < w.heap.size := by
  rcases Nat.lt_or_ge g w.heap.size with h' | h'
  · exact h'
  · simp [World.cell?, Array.getElem?_eq_none h'] at h
theorem forms_of {l : List (String × DataW Unit)} {w : World} (h : laidMet Tryz.prog l w) (hm : ("turnkey/code.forms", DataW.agg (fL.map fun r => .agg [.lit (.string r.1), .lit (.int .i64 r.2.1), .lit (.int .i64 r.2.2.1), .lit (.int .i64 r.2.2.2.1), .lit (.int .i64 r.2.2.2.2)])) ∈ l) : Forms w := by
  have hr := rows5_of_head (l := fL) (rest := []) gForms tForms Tryz.underlying96 Tryz.underlying95 cForm Tryz.underlying9 Tryz.underlying3 strCells cInt ⟨rfl, rfl⟩ ⟨rfl, rfl⟩ ⟨rfl, rfl⟩ ⟨rfl, rfl⟩ ⟨rfl, rfl⟩ (laid_mem h hm)
  exact ⟨in_heap (hr 0 _ (fL_at ⟨0, by decide⟩)).1, fun n hn => (hr n _ (fL_at ⟨n, hn⟩)).1, fun n hn => (hr n _ (fL_at ⟨n, hn⟩)).2.1, fun n hn => (hr n _ (fL_at ⟨n, hn⟩)).2.2.1, fun n hn => (hr n _ (fL_at ⟨n, hn⟩)).2.2.2.1, fun n hn => (hr n _ (fL_at ⟨n, hn⟩)).2.2.2.2⟩
theorem code_of {l : List (String × DataW Unit)} {w : World} (h : laidMet Tryz.prog l w) (h1 : ∃ t, ("turnkey/api.ErrWord", DataW.iface "*errors.errorString" (.ptr (.agg [.lit (.string t)]))) ∈ l) (h2 : ∃ t, ("turnkey/api.ErrRange", DataW.iface "*errors.errorString" (.ptr (.agg [.lit (.string t)]))) ∈ l)
    (hf : ("turnkey/code.forms", DataW.agg (fL.map fun r => .agg [.lit (.string r.1), .lit (.int .i64 r.2.1), .lit (.int .i64 r.2.2.1), .lit (.int .i64 r.2.2.2.1), .lit (.int .i64 r.2.2.2.2)])) ∈ l) : CodeAt (errC (atErr w 4)) (errC (atErr w 5)) w := by
  obtain ⟨t1, h1⟩ := h1
  obtain ⟨t2, h2⟩ := h2
  have E := errs_are (gs := [4, 5]) h (by
    intro g hg
    simp at hg
    rcases hg with rfl | rfl
    · exact ⟨_, t1, h1, gErrWord, tErrWord⟩
    · exact ⟨_, t2, h2, gErrRange, tErrRange⟩)
  obtain ⟨s1, s2, -⟩ := E.1 4 (by simp)
  obtain ⟨r1, r2, -⟩ := E.1 5 (by simp)
  exact ⟨forms_of h hf, s1, s2, r1, r2⟩
theorem u32_fit {a : Int} (h : (Lit.int .u32 a).wf = true) : 0 ≤ a ∧ a ≤ 4294967295 := by simpa [Lit.wf, IntKind.min, IntKind.max, IntKind.signed, IntKind.bits] using h
theorem i64_fitC {a : Int} (h : (Lit.int .i64 a).wf = true) : -9223372036854775808 ≤ a ∧ a ≤ 9223372036854775807 := by simpa [Lit.wf, IntKind.min, IntKind.max, IntKind.signed, IntKind.bits] using h
end Go.Proofs.YtaekccgcnlepaaaGreatDoor
