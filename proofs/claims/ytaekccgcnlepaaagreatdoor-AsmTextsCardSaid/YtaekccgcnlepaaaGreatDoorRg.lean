/-
  turnkeyref1.AsmLine: the operands of a line whose first word has no second one of its own.
-/
import Derived.Test.YtaekccgcnlepaaaGreatDoorRf
namespace Go.Proofs.YtaekccgcnlepaaaGreatDoor
open Go.ChangeShapes Go.WideShapes Go.ChangeAt Go.RowKit Go.Maps
set_option linter.unusedVariables false
set_option linter.unusedSimpArgs false
theorem infoIntR : (Tryz.prog.info? 3).map (fun i => (i.zero, i.size, i.bytes)) = some (some (.int .i64 0), 1, 8) := by kernel_rfl
def iv (x : Nat) : Value := .int .i64 (x : Int)
theorem int_one (x : Int) : ∀ u ∈ [Value.int .i64 x], u.oneCell' = true := by
  intro u hu
  simp only [List.mem_singleton] at hu
  subst hu
  rfl
theorem sgkeep {w3 w w' : World} {g k : Nat} {u : Value} (h : Below w3.heap.size w3 w ∧ w.cell? ⟨g, k, none⟩ = some u) (hg : Hid (g < w3.heap.size)) (hb : Below w.heap.size w w') : Below w3.heap.size w3 w' ∧ w'.cell? ⟨g, k, none⟩ = some u :=
  ⟨h.1.trans (hb.mono h.1.size), (hb.cell (p := ⟨g, k, none⟩) (Nat.lt_of_lt_of_le hg.out h.1.size)).trans h.2⟩
theorem kb_at (kB : ByteArray) (op k : Nat) (h : kB = ⟨(kdL.getD op []).toArray⟩) (hk : k < kB.size) : (kdL.getD op []).getD k 0 = kB[k]'hk := by
  have hg := ba_get kB k hk
  have e : kB.data.toList = kdL.getD op [] := by rw [h]
  rw [e] at hg
  simp only [List.getD]
  simp only [List.getD] at hg
  rw [hg]
  rfl
theorem atV_1 (op : Nat) (h3 : op ≠ 3) (h11 : op ≠ 11) : atV op = 1 := by unfold atV; rw [if_neg (by omega)]
set_option maxRecDepth 100000 in
set_option maxHeartbeats 8000000 in
theorem rasm_bad (s : ByteArray) (hs : s.size ≤ 900) (n op : Nat) (HN : Hid ((tokB s).length = n)) (hn0 : 0 < n) (hn1 : n ≤ 1000) (hop : Hid (opW (tokB s) = op)) (h3 : op ≠ 3) (h11 : op ≠ 11) (h0 : 1 ≤ op) (h13 : op ≤ 13) (hc : n = 1 + (kdL.getD op []).length) (i : Nat) (hi : i < (kdL.getD op []).length) (v : Nat → Nat) (hv : ∀ j, j < i → opdW op (tokB s) j = some (v j)) (hn : opdW op (tokB s) i = none) (w : World) : Calls Tryz.prog 40 #[.string s] w fun e w' => e = .returned (.tuple #[.agg #[.int .i64 0, .int .i64 0, .int .i64 0, .int .i64 0, .int .i64 0], .int .i64 112]) ∧ Below w.heap.size w w' := by
  have HSp := Lib.hid (rsplit_is s hs (w.alloc (.cells #[.int .i64 0, .int .i64 0, .int .i64 0, .int .i64 0, .int .i64 0] 66)))
  have HB0 : Hid (Below w.heap.size w (w.alloc (.cells #[.int .i64 0, .int .i64 0, .int .i64 0, .int .i64 0, .int .i64 0] 66))) := Lib.hid ((Below.refl _ _).alloc (Nat.le_refl _) _)
  have HR0 := Lib.hid (I5.new w 66 0 0 0 0 0)
  obtain ⟨x0, hx0⟩ : ∃ x0, (tokB s).getD 0 ⟨#[]⟩ = x0 := ⟨_, rfl⟩
  have HC0 : Hid (((tokB s).map Value.string)[0]? = some (.string x0)) := Lib.hid (by
    have hl : 0 < (tokB s).length := by rw [HN.out]; exact hn0
    rw [List.getElem?_map, List.getElem?_eq_getElem hl, ← hx0]
    simp [List.getD, hl])
  have HOp : Hid (opL x0.data.toList = op) := Lib.hid (by
    rw [← hop.out, ← hx0]
    have hl : 0 < (tokB s).length := by rw [HN.out]; exact hn0
    cases hq : tokB s with
    | nil => rw [hq] at hl; cases hl
    | cons y r => rfl)
  obtain ⟨kB, hkB⟩ : ∃ kB : ByteArray, kB = ⟨(kdL.getD op []).toArray⟩ := ⟨_, rfl⟩
  have hsz := kB_size ⟨op, by omega⟩
  simp only at hsz
  rw [← hkB] at hsz
  obtain ⟨hz1, hz2⟩ := hsz
  rw [← hz1] at hz2
  obtain ⟨L, hL⟩ : ∃ L, kB.size = L := ⟨_, rfl⟩
  have HLL : Hid ((kdL.getD op []).length = L) := Lib.hid (by rw [← hz1]; exact hL)
  have hn' : n = 1 + L := by rw [hc, ← hz1, hL]
  have HKB := Lib.hid hkB
  rw [hL] at hz2
  have n0 : ((n : Int) == 0) = false := by simp; omega
  have n2 : (0 : Int) < (n : Int) := by omega
  have e3 : ((op : Int) == 3) = false := by simp; omega
  have e11 : ((op : Int) == 11) = false := by simp; omega
  have ho : (op : Int) ≤ 13 := by omega
  have HSh : Hid (∀ W, Calls Tryz.prog 59 #[.string x0] W fun e w' => e = .returned (.tuple #[.string kB, .int .i64 (op : Int)]) ∧ W = w') := Lib.hid (fun W => by rw [hkB]; exact rshape_is x0 op HOp W)
  have HNn := Lib.hid hn'
  have hnL : (n : Int) ≤ 4 := by omega
  clear hx0 hz1 hkB hc hn'
  go_enter Tryz.func40, Tryz.ntmps40
  go_upto_region 8 with (first | (go_at_call 15; refine HSp.out.mono ?_; rintro e w1 ⟨ad, n', cp, rfl, hl⟩; obtain rfl : n = n' := (by have := hl.len; rw [HN.out] at this; exact this); obtain ⟨g, hg⟩ := own_some hl.row hn0; subst hg; have c0 := hl.row.cellAt 0 (by omega); have HB1 := Lib.hid (HB0.out.trans (hl.bel.mono HB0.out.size)); have HR1 := Lib.hid (HR0.out.below hl.bel); have HL1 := Lib.hid hl; rw [HC0.out] at c0; clear hl) | (go_at_call 59; (with_reducible refine (HSh.out _).mono ?_); rintro e w2 ⟨rfl, rfl⟩))
  clear c0
  generalize hA : World.alloc w1 _ = w3
  have HB3 : Hid (Below w1.heap.size w1 w3) := Lib.hid (by rw [← hA]; exact (Below.refl _ _).alloc (Nat.le_refl _) _)
  clear hA
  obtain ⟨R, hR⟩ : ∃ R, R = w.heap.size := ⟨_, rfl⟩
  have HR3 := Lib.hid (HR1.out.below HB3.out)
  have HBW := Lib.hid (HB1.out.trans (HB3.out.mono HB1.out.size))
  rw [← hR] at HR3 ⊢
  have HRR : Hid (w.heap.size ≤ R) := Lib.hid (by rw [hR]; exact Nat.le_refl _)
  clear hR HR1
  have q0 := HR3.out.c0
  have q1 := HR3.out.c1
  have q2 := HR3.out.c2
  have q3 := HR3.out.c3
  have q4 := HR3.out.c4
  have qf := HR3.out.fz
  have e0 : ((op : Int) == 0) = false := by simp; omega
  have e1 : ((n : Int) != 1 + (kB.size : Int)) = false := by rw [hL, HNn.out]; simp
  have e2 : (kB.size : Int) ≤ 3 := by omega
  have HL3 := Lib.hid (HL1.out.below HB3.out)
  have HG3 : Hid (g < w3.heap.size) := Lib.hid (HL3.out.row.lt g rfl).2
  have HOd : Hid (∀ (k : Nat) (hk : k < kB.size), opdW op (tokB s) k = opdO (kB[k]'hk) ((tokB s).getD (1 + k) ⟨#[]⟩).data.toList) := Lib.hid (fun k hk => by
    unfold opdW
    rw [atV_1 op h3 h11, kb_at kB op k HKB.out hk])
  have HCl : Hid (∀ k, k < L → w3.cell? ⟨g, 1 + k, none⟩ = some (.string ((tokB s).getD (1 + k) ⟨#[]⟩))) := Lib.hid (fun k hk => by
    have hl : 1 + k < (tokB s).length := by rw [HN.out, HNn.out]; omega
    have := HL3.out.row.cellAt (1 + k) (by rw [HNn.out]; omega)
    rw [this]
    simp [List.getD, hl])
  have HV := Lib.hid hv
  have HNo := Lib.hid hn
  have hi2 : i < L := by rw [← HLL.out]; exact hi
  have HHL := Lib.hid hL
  have HQ : Hid (I5 w3 R 0 0 0 0 0) := HR3
  obtain ⟨i0, hi', hz0, hz1, hz2'⟩ := info_parts infoIntR
  have HI := Lib.hid (⟨hi', hz0, hz1, hz2'⟩ : Tryz.prog.info? 3 = some i0 ∧ i0.zero = some (.int .i64 0) ∧ i0.size = 1 ∧ i0.bytes = 8)
  clear q0 q1 q2 q3 q4 qf hi hv hn hL h3 h11 hi' hz0 hz1 hz2'
  go_wp2_with fail
  obtain ⟨b0, hb0⟩ : ∃ b0, b0 = w3.heap.size := ⟨_, rfl⟩
  have HB0' : Hid (b0 ≤ w3.heap.size ∧ w3.heap.size ≤ b0) := Lib.hid (by rw [hb0]; exact ⟨Nat.le_refl _, Nat.le_refl _⟩)
  clear hb0
  go_loopw [11, 12] (fun vl j wr => ∃ (k cp2 : Nat) (ad2 : Option Addr), k ≤ i ∧ j = .int .i64 k ∧ vl = .slice ad2 k cp2 ∧ wr.ownsRow b0 3 1 (.slice ad2 k cp2) k ((List.range k).map (fun i => iv (v i))) ∧ Below w3.heap.size w3 wr) (fun _ j _ => i + 1 - (intOf j).toNat)
  case atStart => exact ⟨0, 0, none, by omega, rfl, rfl, World.ownsRow_nil _ _ _ _, Below.refl _ _⟩
  case round =>
    obtain ⟨k, cp2, ad2, hk, rfl, rfl, hrow, hbr⟩ := hrel
    have HRow := Lib.hid hrow
    have HBr := Lib.hid hbr
    have hkL : k < kB.size := by rw [HHL.out]; omega
    obtain ⟨x, hx⟩ : ∃ x, (tokB s).getD (1 + k) ⟨#[]⟩ = x := ⟨_, rfl⟩
    have hxz : x.size ≤ 1000000 := by rw [← hx]; exact Nat.le_trans (tok_size s (1 + k)) (by omega)
    have hcx := HCl.out k (by omega)
    rw [hx] at hcx
    have hcr := (hbr.cell (p := ⟨g, 1 + k, none⟩) HG3.out).trans hcx
    have HOk := Lib.hid (HOd.out k hkL)
    rw [hx] at HOk
    have HK : Hid (k < kB.size) := Lib.hid hkL
    have hkn : 1 + k < n := by have := HNn.out; have := HHL.out; omega
    clear hrow hx hcx
    rcases (show k = 0 ∨ k = 1 ∨ k = 2 by omega) with rfl | rfl | rfl
    · have a0 : (0 : Int) < (kB.size : Int) := by have := HK.out; omega
      have an : (1 : Int) < (n : Int) := by omega
      have ST := Lib.hid (⟨hbr.drew, hcr⟩ : Below w3.heap.size w3 wr.drew ∧ wr.drew.cell? ⟨g, 1, none⟩ = some (.string x))
      clear hbr hcr
      by_cases hki : 0 = i
      · have HO : Hid (numO (opdO (kB[0]'hkL) x.data.toList) = (0, false)) := Lib.hid (by rw [← HOk.out, hki, HNo.out]; rfl)
        have hw : IntKind.i64.wrap 1 = 1 := by decide
        clear hki hkn
        go_wp2_with fail
        go_region_held3 (fun w' => Below w3.heap.size w3 w' ∧ w'.cell? ⟨g, 1, none⟩ = some (.string x)) (first | exact ST.out | exact sgkeep (by assumption) HG3 hb) (first | (go_at_call 37; (with_reducible refine (roperand_is x hxz (kB[0]'hkL) 0 false HO _).mono ?_); rintro e w' ⟨rfl, hb⟩))
        have hS := Lib.hid (show Below w3.heap.size w3 w' from And.left (by assumption))
        have HR' := Lib.hid (HQ.out.below hS.out)
        have q0 := HR'.out.c0
        have q1 := HR'.out.c1
        have q2 := HR'.out.c2
        have q3 := HR'.out.c3
        have q4 := HR'.out.c4
        have qf := HR'.out.fz
        go_wp2_with fail
        have HI := HR'.out.set5 0 0 0 0 0
        clear q0 q1 q2 q3 q4
        have q0 := HI.c0; have q1 := HI.c1; have q2 := HI.c2; have q3 := HI.c3; have q4 := HI.c4; refine bodyPost_ret (v := .tuple #[.agg #[.int .i64 0, .int .i64 0, .int .i64 0, .int .i64 0, .int .i64 0], .int .i64 112]) (by simp [results, Tryz.results40, go_sem, q0, q1, q2, q3, q4]) rfl ⟨rfl, (bel5 (HBW.out.trans (hS.out.mono HBW.out.size)) HRR.out)⟩
      · have HO : Hid (numO (opdO (kB[0]'hkL) x.data.toList) = (((v 0 : Nat) : Int), true)) := Lib.hid (by rw [← HOk.out, HV.out 0 (by omega)]; rfl)
        have hw : IntKind.i64.wrap 1 = 1 := by decide
        have HT : Hid ((List.range 0).map (fun i => iv (v i)) ++ [.int .i64 ((v 0 : Nat) : Int)] = (List.range (0 + 1)).map (fun i => iv (v i))) := Lib.hid (by rw [List.range_succ, List.map_append]; rfl)
        have hki2 : 0 + 1 ≤ i := by omega
        clear hki hkn
        go_wp2_with fail
        go_region_held3 (fun w' => Below w3.heap.size w3 w' ∧ w'.cell? ⟨g, 1, none⟩ = some (.string x)) (first | exact ST.out | exact sgkeep (by assumption) HG3 hb) (first | (go_at_call 37; (with_reducible refine (roperand_is x hxz (kB[0]'hkL) ((v 0 : Nat) : Int) true HO _).mono ?_); rintro e w' ⟨rfl, hb⟩; have HRow2 := Lib.hid (own_keep (own_keep HRow.out ((Below.refl _ _).drew)) hb)))
        have hS := Lib.hid (show Below w3.heap.size w3 w' from And.left (by assumption))
        have HSz : Hid (w3.heap.size ≤ w'.heap.size) := Lib.hid hS.out.size
        have HB00 := Lib.hid (Nat.le_trans HB0'.out.1 HSz.out)
        go_wp2_with (first | (at_builtin; refine wpList_append_own_at _ rfl _ _ 49 rfl b0 3 i0 (.int .i64 0) 1 8 Tryz.underlying49 HI.out.1 HI.out.2.1 HI.out.2.2.1 HI.out.2.2.2 rfl (by decide) _ 0 _ rfl (HRow2.out.alloc _) ⟨w'.heap.size, 0, none⟩ 1 1 [.int .i64 ((v 0 : Nat) : Int)] rfl rfl (cell_one_new _ _ _) (int_one _) (by unfold maxLen; omega) (by omega) (by have := HB00.out; simp at this ⊢; omega) ?_; intro v2 w5 hrow hg3 hnil hloc))
        have HW5 := Lib.hid ((hS.out.alloc hS.out.size _).grown hg3 (by have := hS.out.size; simp; omega) (fun g hg => Nat.le_trans HB0'.out.2 (HRow2.out.lt g hg).1))
        obtain ⟨a3, c3, hv3⟩ := owns_shp hrow
        subst hv3
        have hrow2 := hrow
        rw [HT.out] at hrow2
        have HR5 := Lib.hid hrow2
        clear hrow hrow2 hg3 hnil hloc
        go_roundw
        case rel => exact ⟨1, c3, a3, hki2, rfl, rfl, HR5.out, HW5.out⟩
        case measure => first | (simp [intOf]; done) | (simp [intOf]; omega)
    · have a0 : (1 : Int) < (kB.size : Int) := by have := HK.out; omega
      have an : (2 : Int) < (n : Int) := by omega
      have ST := Lib.hid (⟨hbr.drew, hcr⟩ : Below w3.heap.size w3 wr.drew ∧ wr.drew.cell? ⟨g, 2, none⟩ = some (.string x))
      clear hbr hcr
      by_cases hki : 1 = i
      · have HO : Hid (numO (opdO (kB[1]'hkL) x.data.toList) = (0, false)) := Lib.hid (by rw [← HOk.out, hki, HNo.out]; rfl)
        have hw : IntKind.i64.wrap 2 = 2 := by decide
        clear hki hkn
        go_wp2_with fail
        go_region_held3 (fun w' => Below w3.heap.size w3 w' ∧ w'.cell? ⟨g, 2, none⟩ = some (.string x)) (first | exact ST.out | exact sgkeep (by assumption) HG3 hb) (first | (go_at_call 37; (with_reducible refine (roperand_is x hxz (kB[1]'hkL) 0 false HO _).mono ?_); rintro e w' ⟨rfl, hb⟩))
        have hS := Lib.hid (show Below w3.heap.size w3 w' from And.left (by assumption))
        have HR' := Lib.hid (HQ.out.below hS.out)
        have q0 := HR'.out.c0
        have q1 := HR'.out.c1
        have q2 := HR'.out.c2
        have q3 := HR'.out.c3
        have q4 := HR'.out.c4
        have qf := HR'.out.fz
        go_wp2_with fail
        have HI := HR'.out.set5 0 0 0 0 0
        clear q0 q1 q2 q3 q4
        have q0 := HI.c0; have q1 := HI.c1; have q2 := HI.c2; have q3 := HI.c3; have q4 := HI.c4; refine bodyPost_ret (v := .tuple #[.agg #[.int .i64 0, .int .i64 0, .int .i64 0, .int .i64 0, .int .i64 0], .int .i64 112]) (by simp [results, Tryz.results40, go_sem, q0, q1, q2, q3, q4]) rfl ⟨rfl, (bel5 (HBW.out.trans (hS.out.mono HBW.out.size)) HRR.out)⟩
      · have HO : Hid (numO (opdO (kB[1]'hkL) x.data.toList) = (((v 1 : Nat) : Int), true)) := Lib.hid (by rw [← HOk.out, HV.out 1 (by omega)]; rfl)
        have hw : IntKind.i64.wrap 2 = 2 := by decide
        have HT : Hid ((List.range 1).map (fun i => iv (v i)) ++ [.int .i64 ((v 1 : Nat) : Int)] = (List.range (1 + 1)).map (fun i => iv (v i))) := Lib.hid (by rw [List.range_succ, List.map_append]; rfl)
        have hki2 : 1 + 1 ≤ i := by omega
        clear hki hkn
        go_wp2_with fail
        go_region_held3 (fun w' => Below w3.heap.size w3 w' ∧ w'.cell? ⟨g, 2, none⟩ = some (.string x)) (first | exact ST.out | exact sgkeep (by assumption) HG3 hb) (first | (go_at_call 37; (with_reducible refine (roperand_is x hxz (kB[1]'hkL) ((v 1 : Nat) : Int) true HO _).mono ?_); rintro e w' ⟨rfl, hb⟩; have HRow2 := Lib.hid (own_keep (own_keep HRow.out ((Below.refl _ _).drew)) hb)))
        have hS := Lib.hid (show Below w3.heap.size w3 w' from And.left (by assumption))
        have HSz : Hid (w3.heap.size ≤ w'.heap.size) := Lib.hid hS.out.size
        have HB00 := Lib.hid (Nat.le_trans HB0'.out.1 HSz.out)
        go_wp2_with (first | (at_builtin; refine wpList_append_own_at _ rfl _ _ 49 rfl b0 3 i0 (.int .i64 0) 1 8 Tryz.underlying49 HI.out.1 HI.out.2.1 HI.out.2.2.1 HI.out.2.2.2 rfl (by decide) _ 1 _ rfl (HRow2.out.alloc _) ⟨w'.heap.size, 0, none⟩ 1 1 [.int .i64 ((v 1 : Nat) : Int)] rfl rfl (cell_one_new _ _ _) (int_one _) (by unfold maxLen; omega) (by omega) (by have := HB00.out; simp at this ⊢; omega) ?_; intro v2 w5 hrow hg3 hnil hloc))
        have HW5 := Lib.hid ((hS.out.alloc hS.out.size _).grown hg3 (by have := hS.out.size; simp; omega) (fun g hg => Nat.le_trans HB0'.out.2 (HRow2.out.lt g hg).1))
        obtain ⟨a3, c3, hv3⟩ := owns_shp hrow
        subst hv3
        have hrow2 := hrow
        rw [HT.out] at hrow2
        have HR5 := Lib.hid hrow2
        clear hrow hrow2 hg3 hnil hloc
        go_roundw
        case rel => exact ⟨2, c3, a3, hki2, rfl, rfl, HR5.out, HW5.out⟩
        case measure => first | (simp [intOf]; done) | (simp [intOf]; omega)
    · have a0 : (2 : Int) < (kB.size : Int) := by have := HK.out; omega
      have an : (3 : Int) < (n : Int) := by omega
      have ST := Lib.hid (⟨hbr.drew, hcr⟩ : Below w3.heap.size w3 wr.drew ∧ wr.drew.cell? ⟨g, 3, none⟩ = some (.string x))
      clear hbr hcr
      by_cases hki : 2 = i
      · have HO : Hid (numO (opdO (kB[2]'hkL) x.data.toList) = (0, false)) := Lib.hid (by rw [← HOk.out, hki, HNo.out]; rfl)
        have hw : IntKind.i64.wrap 3 = 3 := by decide
        clear hki hkn
        go_wp2_with fail
        go_region_held3 (fun w' => Below w3.heap.size w3 w' ∧ w'.cell? ⟨g, 3, none⟩ = some (.string x)) (first | exact ST.out | exact sgkeep (by assumption) HG3 hb) (first | (go_at_call 37; (with_reducible refine (roperand_is x hxz (kB[2]'hkL) 0 false HO _).mono ?_); rintro e w' ⟨rfl, hb⟩))
        have hS := Lib.hid (show Below w3.heap.size w3 w' from And.left (by assumption))
        have HR' := Lib.hid (HQ.out.below hS.out)
        have q0 := HR'.out.c0
        have q1 := HR'.out.c1
        have q2 := HR'.out.c2
        have q3 := HR'.out.c3
        have q4 := HR'.out.c4
        have qf := HR'.out.fz
        go_wp2_with fail
        have HI := HR'.out.set5 0 0 0 0 0
        clear q0 q1 q2 q3 q4
        have q0 := HI.c0; have q1 := HI.c1; have q2 := HI.c2; have q3 := HI.c3; have q4 := HI.c4; refine bodyPost_ret (v := .tuple #[.agg #[.int .i64 0, .int .i64 0, .int .i64 0, .int .i64 0, .int .i64 0], .int .i64 112]) (by simp [results, Tryz.results40, go_sem, q0, q1, q2, q3, q4]) rfl ⟨rfl, (bel5 (HBW.out.trans (hS.out.mono HBW.out.size)) HRR.out)⟩
      · exact absurd hki (by omega)
end Go.Proofs.YtaekccgcnlepaaaGreatDoor
