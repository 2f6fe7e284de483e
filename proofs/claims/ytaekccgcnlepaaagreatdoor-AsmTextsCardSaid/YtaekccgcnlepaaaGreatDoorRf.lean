/-
  turnkeyref1.AsmLine: a first word with no second one of its own; another count of words.
-/
import Derived.Test.YtaekccgcnlepaaaGreatDoorRe
namespace Go.Proofs.YtaekccgcnlepaaaGreatDoor
open Go.ChangeShapes Go.WideShapes Go.ChangeAt Go.RowKit Go.Maps
set_option linter.unusedVariables false
set_option linter.unusedSimpArgs false
theorem kB_size : ∀ op : Fin 14, (⟨(kdL.getD op.val []).toArray⟩ : ByteArray).size = (kdL.getD op.val []).length ∧ (kdL.getD op.val []).length ≤ 3 := by decide
set_option maxRecDepth 100000 in
set_option maxHeartbeats 4000000 in
theorem rasm_cnt (s : ByteArray) (hs : s.size ≤ 900) (n op : Nat) (HN : Hid ((tokB s).length = n)) (hn0 : 0 < n) (hn1 : n ≤ 1000) (hop : Hid (opW (tokB s) = op)) (h3 : op ≠ 3) (h11 : op ≠ 11) (h13 : op ≤ 13) (hc : op = 0 ∨ n ≠ 1 + (kdL.getD op []).length) (w : World) : Calls Tryz.prog 40 #[.string s] w fun e w' => e = .returned (.tuple #[.agg #[.int .i64 0, .int .i64 0, .int .i64 0, .int .i64 0, .int .i64 0], .int .i64 111]) ∧ Below w.heap.size w w' := by
  have HSp := Lib.hid (rsplit_is s hs (w.alloc (.cells #[.int .i64 0, .int .i64 0, .int .i64 0, .int .i64 0, .int .i64 0] 66)))
  have HB0 : Hid (Below w.heap.size w (w.alloc (.cells #[.int .i64 0, .int .i64 0, .int .i64 0, .int .i64 0, .int .i64 0] 66))) := Lib.hid ((Below.refl _ _).alloc (Nat.le_refl _) _)
  have HR0 := Lib.hid (I5.new w 66 0 0 0 0 0)
  obtain ⟨x0, hx0⟩ : ∃ x0, (tokB s).getD 0 ⟨#[]⟩ = x0 := ⟨_, rfl⟩
  have HC0 : Hid (((tokB s).map Value.string)[0]? = some (.string x0)) := Lib.hid (by
    have hl : 0 < (tokB s).length := by rw [HN.out]; exact hn0
    rw [List.getElem?_map, List.getElem?_eq_getElem hl, ← hx0]
    simp [List.getD, hl])
  have HOp : Hid (opL x0.data.toList = op) := Lib.hid (by
    rw [← hop.out, ← hx0]
    have hl : 0 < (tokB s).length := by rw [HN.out]; exact hn0
    cases hq : tokB s with
    | nil => rw [hq] at hl; cases hl
    | cons y r => rfl)
  obtain ⟨kB, hkB⟩ : ∃ kB : ByteArray, kB = ⟨(kdL.getD op []).toArray⟩ := ⟨_, rfl⟩
  have hsz := kB_size ⟨op, by omega⟩
  simp only at hsz
  rw [← hkB] at hsz
  obtain ⟨hz1, hz2⟩ := hsz
  rw [← hz1] at hc hz2
  have n0 : ((n : Int) == 0) = false := by simp; omega
  have n2 : (0 : Int) < (n : Int) := by omega
  have e3 : ((op : Int) == 3) = false := by simp; omega
  have e11 : ((op : Int) == 11) = false := by simp; omega
  have ho : (op : Int) ≤ 13 := by omega
  have HSh : Hid (∀ W, Calls Tryz.prog 59 #[.string x0] W fun e w' => e = .returned (.tuple #[.string kB, .int .i64 (op : Int)]) ∧ W = w') := Lib.hid (fun W => by rw [hkB]; exact rshape_is x0 op HOp W)
  clear hx0 hz1 hkB
  go_enter Tryz.func40, Tryz.ntmps40
  go_upto_region 8 with (first | (go_at_call 15; refine HSp.out.mono ?_; rintro e w1 ⟨ad, n', cp, rfl, hl⟩; obtain rfl : n = n' := (by have := hl.len; rw [HN.out] at this; exact this); obtain ⟨g, hg⟩ := own_some hl.row hn0; subst hg; have c0 := hl.row.cellAt 0 (by omega); have HB1 := Lib.hid (HB0.out.trans (hl.bel.mono HB0.out.size)); have HR1 := Lib.hid (HR0.out.below hl.bel); have HL1 := Lib.hid hl; rw [HC0.out] at c0; clear hl) | (go_at_call 59; (with_reducible refine (HSh.out _).mono ?_); rintro e w2 ⟨rfl, rfl⟩))
  clear c0
  generalize hA : World.alloc w1 _ = w3
  have HB3 : Hid (Below w1.heap.size w1 w3) := Lib.hid (by rw [← hA]; exact (Below.refl _ _).alloc (Nat.le_refl _) _)
  clear hA
  obtain ⟨R, hR⟩ : ∃ R, R = w.heap.size := ⟨_, rfl⟩
  have HR3 := Lib.hid (HR1.out.below HB3.out)
  have HBW := Lib.hid (HB1.out.trans (HB3.out.mono HB1.out.size))
  rw [← hR] at HR3 ⊢
  have HRR : Hid (w.heap.size ≤ R) := Lib.hid (by rw [hR]; exact Nat.le_refl _)
  clear hR HR1
  have q0 := HR3.out.c0
  have q1 := HR3.out.c1
  have q2 := HR3.out.c2
  have q3 := HR3.out.c3
  have q4 := HR3.out.c4
  have qf := HR3.out.fz
  have hcc : ((op : Int) == 0) = true ∨ (((op : Int) == 0) = false ∧ ((n : Int) != 1 + (kB.size : Int)) = true) := by
    by_cases h0 : op = 0
    · left; simp [h0]
    · right
      refine ⟨by simp [h0], ?_⟩
      rcases hc with hc | hc
      · exact absurd hc h0
      · rw [bne_iff_ne]; omega
  clear hc h3 h11 h13
  rcases hcc with e0 | ⟨e0, e1⟩
  · go_wp2_with fail
    have HI := HR3.out.set5 0 0 0 0 0
    clear q0 q1 q2 q3 q4
    have q0 := HI.c0; have q1 := HI.c1; have q2 := HI.c2; have q3 := HI.c3; have q4 := HI.c4; refine bodyPost_ret (v := .tuple #[.agg #[.int .i64 0, .int .i64 0, .int .i64 0, .int .i64 0, .int .i64 0], .int .i64 111]) (by simp [results, Tryz.results40, go_sem, q0, q1, q2, q3, q4]) rfl ⟨rfl, (bel5 HBW.out HRR.out)⟩
  · go_wp2_with fail
    have HI := HR3.out.set5 0 0 0 0 0
    clear q0 q1 q2 q3 q4
    have q0 := HI.c0; have q1 := HI.c1; have q2 := HI.c2; have q3 := HI.c3; have q4 := HI.c4; refine bodyPost_ret (v := .tuple #[.agg #[.int .i64 0, .int .i64 0, .int .i64 0, .int .i64 0, .int .i64 0], .int .i64 111]) (by simp [results, Tryz.results40, go_sem, q0, q1, q2, q3, q4]) rfl ⟨rfl, (bel5 HBW.out HRR.out)⟩
end Go.Proofs.YtaekccgcnlepaaaGreatDoor
