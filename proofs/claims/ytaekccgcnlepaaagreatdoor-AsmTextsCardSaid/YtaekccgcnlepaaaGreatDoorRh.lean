/-
  turnkeyref1.AsmLine: any operands that read, of an op that is not 3 or 11.
-/
import Derived.Test.YtaekccgcnlepaaaGreatDoorRg
import Derived.Test.YtaekccgcnlepaaaGreatDoorCodeVz
namespace Go.Proofs.YtaekccgcnlepaaaGreatDoor
open Go.ChangeShapes Go.WideShapes Go.ChangeAt Go.RowKit Go.Maps
set_option linter.unusedVariables false
set_option linter.unusedSimpArgs false
/-- What the document's program says of it. -/
def codR (o : Option Nat) : Int := match o with | none => 0 | some 2 => 103 | some 10 => 111 | some _ => 112
set_option maxRecDepth 100000 in
set_option maxHeartbeats 16000000 in
theorem rasm_good (s : ByteArray) (hs : s.size ≤ 900) (n op : Nat) (HN : Hid ((tokB s).length = n)) (hn0 : 0 < n) (hn1 : n ≤ 1000) (hop : Hid (opW (tokB s) = op)) (h3 : op ≠ 3) (h11 : op ≠ 11) (h0 : 1 ≤ op) (h13 : op ≤ 13) (hc : n = 1 + (kdL.getD op []).length) (v : Nat → Nat) (hv : ∀ j, j < (kdL.getD op []).length → opdW op (tokB s) j = some (v j)) (X : (Int × Int × Int × Int × Int) × Option Nat) (hX : Hid (endR (insR op 0 (v 0) (v 1) (v 2)) = X)) (w : World) : Calls Tryz.prog 40 #[.string s] w fun e w' => e = .returned (.tuple #[(.agg #[.int .i64 X.1.1, .int .i64 X.1.2.1, .int .i64 X.1.2.2.1, .int .i64 X.1.2.2.2.1, .int .i64 X.1.2.2.2.2]), .int .i64 (codR X.2)]) ∧ Below w.heap.size w w' := by
  have HSp := Lib.hid (rsplit_is s hs (w.alloc (.cells #[.int .i64 0, .int .i64 0, .int .i64 0, .int .i64 0, .int .i64 0] 66)))
  have HB0 : Hid (Below w.heap.size w (w.alloc (.cells #[.int .i64 0, .int .i64 0, .int .i64 0, .int .i64 0, .int .i64 0] 66))) := Lib.hid ((Below.refl _ _).alloc (Nat.le_refl _) _)
  have HR0 := Lib.hid (I5.new w 66 0 0 0 0 0)
  obtain ⟨x0, hx0⟩ : ∃ x0, (tokB s).getD 0 ⟨#[]⟩ = x0 := ⟨_, rfl⟩
  have HC0 : Hid (((tokB s).map Value.string)[0]? = some (.string x0)) := Lib.hid (by
    have hl : 0 < (tokB s).length := by rw [HN.out]; exact hn0
    rw [List.getElem?_map, List.getElem?_eq_getElem hl, ← hx0]
    simp [List.getD, hl])
  have HOp : Hid (opL x0.data.toList = op) := Lib.hid (by
    rw [← hop.out, ← hx0]
    have hl : 0 < (tokB s).length := by rw [HN.out]; exact hn0
    cases hq : tokB s with
    | nil => rw [hq] at hl; cases hl
    | cons y r => rfl)
  obtain ⟨kB, hkB⟩ : ∃ kB : ByteArray, kB = ⟨(kdL.getD op []).toArray⟩ := ⟨_, rfl⟩
  have hsz := kB_size ⟨op, by omega⟩
  simp only at hsz
  rw [← hkB] at hsz
  obtain ⟨hz1, hz2⟩ := hsz
  rw [← hz1] at hz2
  obtain ⟨L, hL⟩ : ∃ L, kB.size = L := ⟨_, rfl⟩
  have HLL : Hid ((kdL.getD op []).length = L) := Lib.hid (by rw [← hz1]; exact hL)
  have hn' : n = 1 + L := by rw [hc, ← hz1, hL]
  have HKB := Lib.hid hkB
  rw [hL] at hz2
  have n0 : ((n : Int) == 0) = false := by simp; omega
  have n2 : (0 : Int) < (n : Int) := by omega
  have e3 : ((op : Int) == 3) = false := by simp; omega
  have e11 : ((op : Int) == 11) = false := by simp; omega
  have ho : (op : Int) ≤ 13 := by omega
  have HSh : Hid (∀ W, Calls Tryz.prog 59 #[.string x0] W fun e w' => e = .returned (.tuple #[.string kB, .int .i64 (op : Int)]) ∧ W = w') := Lib.hid (fun W => by rw [hkB]; exact rshape_is x0 op HOp W)
  have HNn := Lib.hid hn'
  have hnL : (n : Int) ≤ 4 := by omega
  clear hx0 hz1 hkB hc hn'
  go_enter Tryz.func40, Tryz.ntmps40
  go_upto_region 8 with (first | (go_at_call 15; refine HSp.out.mono ?_; rintro e w1 ⟨ad, n', cp, rfl, hl⟩; obtain rfl : n = n' := (by have := hl.len; rw [HN.out] at this; exact this); obtain ⟨g, hg⟩ := own_some hl.row hn0; subst hg; have c0 := hl.row.cellAt 0 (by omega); have HB1 := Lib.hid (HB0.out.trans (hl.bel.mono HB0.out.size)); have HR1 := Lib.hid (HR0.out.below hl.bel); have HL1 := Lib.hid hl; rw [HC0.out] at c0; clear hl) | (go_at_call 59; (with_reducible refine (HSh.out _).mono ?_); rintro e w2 ⟨rfl, rfl⟩))
  clear c0
  generalize hA : World.alloc w1 _ = w3
  have HB3 : Hid (Below w1.heap.size w1 w3) := Lib.hid (by rw [← hA]; exact (Below.refl _ _).alloc (Nat.le_refl _) _)
  obtain ⟨J, hJ⟩ : ∃ J, J = w1.heap.size := ⟨_, rfl⟩
  have HJ3 : Hid (I5 w3 J (op : Int) 0 0 0 0) := Lib.hid (by rw [← hA, hJ]; exact I5.new _ _ _ _ _ _ _)
  rw [← hJ]
  obtain ⟨R, hR⟩ : ∃ R, R = w.heap.size := ⟨_, rfl⟩
  have HR3 := Lib.hid (HR1.out.below HB3.out)
  have HBW := Lib.hid (HB1.out.trans (HB3.out.mono HB1.out.size))
  rw [← hR] at HR3 ⊢
  have HRR : Hid (w.heap.size ≤ R) := Lib.hid (by rw [hR]; exact Nat.le_refl _)
  have HRJ : Hid (R ≠ J ∧ w.heap.size ≤ J) := Lib.hid (by have h1 := HR1.out.lt; have h2 := HB1.out.size; rw [hR, hJ]; omega)
  have HL3 := Lib.hid (HL1.out.below HB3.out)
  have HG3 : Hid (g < w3.heap.size) := Lib.hid (HL3.out.row.lt g rfl).2
  clear hR HR1 hJ hA
  have e0 : ((op : Int) == 0) = false := by simp; omega
  have e1 : ((n : Int) != 1 + (kB.size : Int)) = false := by rw [hL, HNn.out]; simp
  have e2 : (kB.size : Int) ≤ 3 := by omega
  have HOd : Hid (∀ (k : Nat) (hk : k < kB.size), opdW op (tokB s) k = opdO (kB[k]'hk) ((tokB s).getD (1 + k) ⟨#[]⟩).data.toList) := Lib.hid (fun k hk => by
    unfold opdW
    rw [atV_1 op h3 h11, kb_at kB op k HKB.out hk])
  have HCl : Hid (∀ k, k < L → w3.cell? ⟨g, 1 + k, none⟩ = some (.string ((tokB s).getD (1 + k) ⟨#[]⟩))) := Lib.hid (fun k hk => by
    have hl : 1 + k < (tokB s).length := by rw [HN.out, HNn.out]; omega
    have := HL3.out.row.cellAt (1 + k) (by rw [HNn.out]; omega)
    rw [this]
    simp [List.getD, hl])
  have HV : Hid (∀ j, j < L → opdW op (tokB s) j = some (v j)) := Lib.hid (fun j hj => hv j (by rw [HLL.out]; exact hj))
  have HHL := Lib.hid hL
  have H13 : Hid (1 ≤ op ∧ op ≤ 13 ∧ op ≠ 3 ∧ op ≠ 11) := Lib.hid ⟨h0, h13, h3, h11⟩
  clear hv hL h3 h11
  obtain ⟨i0, hi', hz0, hz1, hz2'⟩ := info_parts infoIntR
  have HI := Lib.hid (⟨hi', hz0, hz1, hz2'⟩ : Tryz.prog.info? 3 = some i0 ∧ i0.zero = some (.int .i64 0) ∧ i0.size = 1 ∧ i0.bytes = 8)
  clear hi' hz0 hz1 hz2'
  go_upto_region 20 with fail
  obtain ⟨b0, hb0⟩ : ∃ b0, b0 = w3.heap.size := ⟨_, rfl⟩
  have HB0' : Hid (b0 ≤ w3.heap.size ∧ w3.heap.size ≤ b0) := Lib.hid (by rw [hb0]; exact ⟨Nat.le_refl _, Nat.le_refl _⟩)
  clear hb0
  go_loopw [11, 12] (fun vl j wr => ∃ (k cp2 : Nat) (ad2 : Option Addr), k ≤ L ∧ j = .int .i64 k ∧ vl = .slice ad2 k cp2 ∧ wr.ownsRow b0 3 1 (.slice ad2 k cp2) k ((List.range k).map (fun i => iv (v i))) ∧ Below w3.heap.size w3 wr) (fun _ j _ => L + 1 - (intOf j).toNat)
  case atStart => exact ⟨0, 0, none, by omega, rfl, rfl, World.ownsRow_nil _ _ _ _, Below.refl _ _⟩
  case round =>
    obtain ⟨k, cp2, ad2, hk, rfl, rfl, hrow, hbr⟩ := hrel
    have HRow := Lib.hid hrow
    have HBr := Lib.hid hbr
    by_cases hkl : k < L
    · have hkL : k < kB.size := by rw [HHL.out]; omega
      obtain ⟨x, hx⟩ : ∃ x, (tokB s).getD (1 + k) ⟨#[]⟩ = x := ⟨_, rfl⟩
      have hxz : x.size ≤ 1000000 := by rw [← hx]; exact Nat.le_trans (tok_size s (1 + k)) (by omega)
      have hcx := HCl.out k (by omega)
      rw [hx] at hcx
      have hcr := (hbr.cell (p := ⟨g, 1 + k, none⟩) HG3.out).trans hcx
      have HOk := Lib.hid (HOd.out k hkL)
      rw [hx] at HOk
      have HK : Hid (k < kB.size) := Lib.hid hkL
      have HKl : Hid (k < L) := Lib.hid hkl
      have hkn : 1 + k < n := by have := HNn.out; have := HHL.out; omega
      clear hrow hx hcx hkl
      rcases (show k = 0 ∨ k = 1 ∨ k = 2 by omega) with rfl | rfl | rfl
      · have a0 : (0 : Int) < (kB.size : Int) := by have := HK.out; omega
        have an : (1 : Int) < (n : Int) := by omega
        have ST := Lib.hid (⟨hbr.drew, hcr⟩ : Below w3.heap.size w3 wr.drew ∧ wr.drew.cell? ⟨g, 1, none⟩ = some (.string x))
        clear hbr hcr
        have HO : Hid (numO (opdO (kB[0]'hkL) x.data.toList) = (((v 0 : Nat) : Int), true)) := Lib.hid (by rw [← HOk.out, HV.out 0 HKl.out]; rfl)
        have hw : IntKind.i64.wrap 1 = 1 := by decide
        have HT : Hid ((List.range 0).map (fun i => iv (v i)) ++ [.int .i64 ((v 0 : Nat) : Int)] = (List.range (0 + 1)).map (fun i => iv (v i))) := Lib.hid (by rw [List.range_succ, List.map_append]; rfl)
        have hki2 : 0 + 1 ≤ L := HKl.out
        clear hkn
        go_wp2_with fail
        go_region_held3 (fun w' => Below w3.heap.size w3 w' ∧ w'.cell? ⟨g, 1, none⟩ = some (.string x)) (first | exact ST.out | exact sgkeep (by assumption) HG3 hb) (first | (go_at_call 37; (with_reducible refine (roperand_is x hxz (kB[0]'hkL) ((v 0 : Nat) : Int) true HO _).mono ?_); rintro e w' ⟨rfl, hb⟩; have HRow2 := Lib.hid (own_keep (own_keep HRow.out ((Below.refl _ _).drew)) hb)))
        have hS := Lib.hid (show Below w3.heap.size w3 w' from And.left (by assumption))
        have HSz : Hid (w3.heap.size ≤ w'.heap.size) := Lib.hid hS.out.size
        have HB00 := Lib.hid (Nat.le_trans HB0'.out.1 HSz.out)
        go_wp2_with (first | (at_builtin; refine wpList_append_own_at _ rfl _ _ 49 rfl b0 3 i0 (.int .i64 0) 1 8 Tryz.underlying49 HI.out.1 HI.out.2.1 HI.out.2.2.1 HI.out.2.2.2 rfl (by decide) _ 0 _ rfl (HRow2.out.alloc _) ⟨w'.heap.size, 0, none⟩ 1 1 [.int .i64 ((v 0 : Nat) : Int)] rfl rfl (cell_one_new _ _ _) (int_one _) (by unfold maxLen; omega) (by omega) (by have := HB00.out; simp at this ⊢; omega) ?_; intro v2 w5 hrow hg3 hnil hloc))
        have HW5 := Lib.hid ((hS.out.alloc hS.out.size _).grown hg3 (by have := hS.out.size; simp; omega) (fun g hg => Nat.le_trans HB0'.out.2 (HRow2.out.lt g hg).1))
        obtain ⟨a3, c3, hv3⟩ := owns_shp hrow
        subst hv3
        have hrow2 := hrow
        rw [HT.out] at hrow2
        have HR5 := Lib.hid hrow2
        clear hrow hrow2 hg3 hnil hloc
        go_roundw
        case rel => exact ⟨1, c3, a3, hki2, rfl, rfl, HR5.out, HW5.out⟩
        case measure => first | (simp [intOf]; done) | (simp [intOf]; omega)
      · have a0 : (1 : Int) < (kB.size : Int) := by have := HK.out; omega
        have an : (2 : Int) < (n : Int) := by omega
        have ST := Lib.hid (⟨hbr.drew, hcr⟩ : Below w3.heap.size w3 wr.drew ∧ wr.drew.cell? ⟨g, 2, none⟩ = some (.string x))
        clear hbr hcr
        have HO : Hid (numO (opdO (kB[1]'hkL) x.data.toList) = (((v 1 : Nat) : Int), true)) := Lib.hid (by rw [← HOk.out, HV.out 1 HKl.out]; rfl)
        have hw : IntKind.i64.wrap 2 = 2 := by decide
        have HT : Hid ((List.range 1).map (fun i => iv (v i)) ++ [.int .i64 ((v 1 : Nat) : Int)] = (List.range (1 + 1)).map (fun i => iv (v i))) := Lib.hid (by rw [List.range_succ, List.map_append]; rfl)
        have hki2 : 1 + 1 ≤ L := HKl.out
        clear hkn
        go_wp2_with fail
        go_region_held3 (fun w' => Below w3.heap.size w3 w' ∧ w'.cell? ⟨g, 2, none⟩ = some (.string x)) (first | exact ST.out | exact sgkeep (by assumption) HG3 hb) (first | (go_at_call 37; (with_reducible refine (roperand_is x hxz (kB[1]'hkL) ((v 1 : Nat) : Int) true HO _).mono ?_); rintro e w' ⟨rfl, hb⟩; have HRow2 := Lib.hid (own_keep (own_keep HRow.out ((Below.refl _ _).drew)) hb)))
        have hS := Lib.hid (show Below w3.heap.size w3 w' from And.left (by assumption))
        have HSz : Hid (w3.heap.size ≤ w'.heap.size) := Lib.hid hS.out.size
        have HB00 := Lib.hid (Nat.le_trans HB0'.out.1 HSz.out)
        go_wp2_with (first | (at_builtin; refine wpList_append_own_at _ rfl _ _ 49 rfl b0 3 i0 (.int .i64 0) 1 8 Tryz.underlying49 HI.out.1 HI.out.2.1 HI.out.2.2.1 HI.out.2.2.2 rfl (by decide) _ 1 _ rfl (HRow2.out.alloc _) ⟨w'.heap.size, 0, none⟩ 1 1 [.int .i64 ((v 1 : Nat) : Int)] rfl rfl (cell_one_new _ _ _) (int_one _) (by unfold maxLen; omega) (by omega) (by have := HB00.out; simp at this ⊢; omega) ?_; intro v2 w5 hrow hg3 hnil hloc))
        have HW5 := Lib.hid ((hS.out.alloc hS.out.size _).grown hg3 (by have := hS.out.size; simp; omega) (fun g hg => Nat.le_trans HB0'.out.2 (HRow2.out.lt g hg).1))
        obtain ⟨a3, c3, hv3⟩ := owns_shp hrow
        subst hv3
        have hrow2 := hrow
        rw [HT.out] at hrow2
        have HR5 := Lib.hid hrow2
        clear hrow hrow2 hg3 hnil hloc
        go_roundw
        case rel => exact ⟨2, c3, a3, hki2, rfl, rfl, HR5.out, HW5.out⟩
        case measure => first | (simp [intOf]; done) | (simp [intOf]; omega)
      · have a0 : (2 : Int) < (kB.size : Int) := by have := HK.out; omega
        have an : (3 : Int) < (n : Int) := by omega
        have ST := Lib.hid (⟨hbr.drew, hcr⟩ : Below w3.heap.size w3 wr.drew ∧ wr.drew.cell? ⟨g, 3, none⟩ = some (.string x))
        clear hbr hcr
        have HO : Hid (numO (opdO (kB[2]'hkL) x.data.toList) = (((v 2 : Nat) : Int), true)) := Lib.hid (by rw [← HOk.out, HV.out 2 HKl.out]; rfl)
        have hw : IntKind.i64.wrap 3 = 3 := by decide
        have HT : Hid ((List.range 2).map (fun i => iv (v i)) ++ [.int .i64 ((v 2 : Nat) : Int)] = (List.range (2 + 1)).map (fun i => iv (v i))) := Lib.hid (by rw [List.range_succ, List.map_append]; rfl)
        have hki2 : 2 + 1 ≤ L := HKl.out
        clear hkn
        go_wp2_with fail
        go_region_held3 (fun w' => Below w3.heap.size w3 w' ∧ w'.cell? ⟨g, 3, none⟩ = some (.string x)) (first | exact ST.out | exact sgkeep (by assumption) HG3 hb) (first | (go_at_call 37; (with_reducible refine (roperand_is x hxz (kB[2]'hkL) ((v 2 : Nat) : Int) true HO _).mono ?_); rintro e w' ⟨rfl, hb⟩; have HRow2 := Lib.hid (own_keep (own_keep HRow.out ((Below.refl _ _).drew)) hb)))
        have hS := Lib.hid (show Below w3.heap.size w3 w' from And.left (by assumption))
        have HSz : Hid (w3.heap.size ≤ w'.heap.size) := Lib.hid hS.out.size
        have HB00 := Lib.hid (Nat.le_trans HB0'.out.1 HSz.out)
        go_wp2_with (first | (at_builtin; refine wpList_append_own_at _ rfl _ _ 49 rfl b0 3 i0 (.int .i64 0) 1 8 Tryz.underlying49 HI.out.1 HI.out.2.1 HI.out.2.2.1 HI.out.2.2.2 rfl (by decide) _ 2 _ rfl (HRow2.out.alloc _) ⟨w'.heap.size, 0, none⟩ 1 1 [.int .i64 ((v 2 : Nat) : Int)] rfl rfl (cell_one_new _ _ _) (int_one _) (by unfold maxLen; omega) (by omega) (by have := HB00.out; simp at this ⊢; omega) ?_; intro v2 w5 hrow hg3 hnil hloc))
        have HW5 := Lib.hid ((hS.out.alloc hS.out.size _).grown hg3 (by have := hS.out.size; simp; omega) (fun g hg => Nat.le_trans HB0'.out.2 (HRow2.out.lt g hg).1))
        obtain ⟨a3, c3, hv3⟩ := owns_shp hrow
        subst hv3
        have hrow2 := hrow
        rw [HT.out] at hrow2
        have HR5 := Lib.hid hrow2
        clear hrow hrow2 hg3 hnil hloc
        go_roundw
        case rel => exact ⟨3, c3, a3, hki2, rfl, rfl, HR5.out, HW5.out⟩
        case measure => first | (simp [intOf]; done) | (simp [intOf]; omega)
    · obtain rfl : k = L := by omega
      have hdd : decide (k < kB.size) = false := by rw [HHL.out]; simp
      have hdi : decide ((k : Int) < (kB.size : Int)) = false := by rw [HHL.out]; simp
      clear hbr hkl
      go_upto_region 26 with fail
      clear hdd hdi
      obtain ⟨y1, y13, y3, y11⟩ := H13.out
      rcases (show op = 1 ∨ op = 2 ∨ op = 4 ∨ op = 5 ∨ op = 6 ∨ op = 7 ∨ op = 8 ∨ op = 9 ∨ op = 10 ∨ op = 12 ∨ op = 13 by omega) with rfl | rfl | rfl | rfl | rfl | rfl | rfl | rfl | rfl | rfl | rfl
      · clear y1 y13 y3 y11 e0 e3 e11 ho h0 h13
        obtain rfl : k = 2 := by rw [← HLL.out]; rfl
        rw [show ((1 : Nat) : Int) = 1 from rfl]
        obtain ⟨g2, hg2⟩ := own_some hrow (by decide)
        subst hg2
        have hJg : Hid (g2 ≠ J) := Lib.hid (fun e => by have h1 := (hrow.lt g2 rfl).1; have h2 := HB0'.out.2; have h3 := HJ3.out.lt; omega)
        have c0 : wr.cell? ⟨g2, 0, none⟩ = some (.int .i64 ((v 0 : Nat) : Int)) := hrow.cellAt 0 (by decide)
        have c1 : wr.cell? ⟨g2, 1, none⟩ = some (.int .i64 ((v 1 : Nat) : Int)) := hrow.cellAt 1 (by decide)
        have HJ_0 : Hid (I5 wr J 1 0 0 0 0) := Lib.hid (HJ3.out.below HBr.out)
        have HR_0 := Lib.hid (HR3.out.below HBr.out)
        have HB_0 := Lib.hid (HBW.out.trans (HBr.out.mono HBW.out.size))
        have r0 := HJ_0.out.c0
        have r1 := HJ_0.out.c1
        have r2 := HJ_0.out.c2
        have r3 := HJ_0.out.c3
        have r4 := HJ_0.out.c4
        have rf := HJ_0.out.fz
        clear hrow
        go_upto_region 31 with fail
        generalize hA : World.setCell wr _ _ = wA0
        have HJ_1 : Hid (I5 wA0 J 1 ((v 0 : Nat) : Int) 0 0 0) := Lib.hid (by rw [← hA]; exact HJ_0.out.put.2.1 _)
        have HR_1 := Lib.hid (HR_0.out.far HRJ.out.1 (i := 1) (v := .int .i64 ((v 0 : Nat) : Int)))
        have HB_1 : Hid (Below w.heap.size w wA0) := Lib.hid (by rw [← hA]; exact HB_0.out.setCell HRJ.out.2 _)
        rw [hA] at HR_1
        replace c0 : wA0.cell? ⟨g2, 0, none⟩ = some (.int .i64 ((v 0 : Nat) : Int)) := by rw [← hA]; exact (sc_far hJg.out).trans c0
        replace c1 : wA0.cell? ⟨g2, 1, none⟩ = some (.int .i64 ((v 1 : Nat) : Int)) := by rw [← hA]; exact (sc_far hJg.out).trans c1
        clear r0 r1 r2 r3 r4 rf hA
        have r0 := HJ_1.out.c0
        have r1 := HJ_1.out.c1
        have r2 := HJ_1.out.c2
        have r3 := HJ_1.out.c3
        have r4 := HJ_1.out.c4
        have rf := HJ_1.out.fz
        go_upto_region 53 with fail
        generalize hA : World.setCell wA0 _ _ = wA1
        have HJ_2 : Hid (I5 wA1 J 1 ((v 0 : Nat) : Int) 0 0 ((v 1 : Nat) : Int)) := Lib.hid (by rw [← hA]; exact HJ_1.out.put.2.2.2.2 _)
        have HR_2 := Lib.hid (HR_1.out.far HRJ.out.1 (i := 4) (v := .int .i64 ((v 1 : Nat) : Int)))
        have HB_2 : Hid (Below w.heap.size w wA1) := Lib.hid (by rw [← hA]; exact HB_1.out.setCell HRJ.out.2 _)
        rw [hA] at HR_2
        replace c0 : wA1.cell? ⟨g2, 0, none⟩ = some (.int .i64 ((v 0 : Nat) : Int)) := by rw [← hA]; exact (sc_far hJg.out).trans c0
        replace c1 : wA1.cell? ⟨g2, 1, none⟩ = some (.int .i64 ((v 1 : Nat) : Int)) := by rw [← hA]; exact (sc_far hJg.out).trans c1
        clear r0 r1 r2 r3 r4 rf hA
        have r0 := HJ_2.out.c0
        have r1 := HJ_2.out.c1
        have r2 := HJ_2.out.c2
        have r3 := HJ_2.out.c3
        have r4 := HJ_2.out.c4
        have rf := HJ_2.out.fz
        clear c0 c1
        by_cases hok : okB 1 ((v 0 : Nat) : Int) 0 0 ((v 1 : Nat) : Int) = true
        · have HVI : Hid (∀ W, Calls Tryz.prog 38 #[.agg #[.int .i64 1, .int .i64 ((v 0 : Nat) : Int), .int .i64 0, .int .i64 0, .int .i64 ((v 1 : Nat) : Int)]] W fun e w' => e = .returned (.int .i64 0) ∧ Below W.heap.size W w') := Lib.hid (fun W => vi_is 1 ((v 0 : Nat) : Int) 0 0 ((v 1 : Nat) : Int) 0 (Lib.hid (codeI_ok hok)) W)
          have HX2 : Hid (X = ((1, ((v 0 : Nat) : Int), 0, 0, ((v 1 : Nat) : Int)), none)) := Lib.hid (by rw [← hX.out]; show (if okB 1 ((v 0 : Nat) : Int) 0 0 ((v 1 : Nat) : Int) = true then _ else _) = _; rw [if_pos hok]; rfl)
          clear hok
          go_upto_region 54 with (first | (go_at_call 38; (with_reducible refine (HVI.out _).mono ?_); rintro e w5 ⟨rfl, hb5⟩; have HJ9 := Lib.hid (HJ_2.out.below hb5); have HR9 := Lib.hid (HR_2.out.below hb5); have HB9 := Lib.hid (HB_2.out.trans (hb5.mono HB_2.out.size))))
          clear r0 r1 r2 r3 r4 rf hb5
          have r0 := HJ9.out.c0
          have r1 := HJ9.out.c1
          have r2 := HJ9.out.c2
          have r3 := HJ9.out.c3
          have r4 := HJ9.out.c4
          have q0 := HR9.out.c0
          have q1 := HR9.out.c1
          have q2 := HR9.out.c2
          have q3 := HR9.out.c3
          have q4 := HR9.out.c4
          have qf := HR9.out.fz
          go_wp2_with fail
          have HI := HR9.out.set5 1 ((v 0 : Nat) : Int) 0 0 ((v 1 : Nat) : Int)
          clear q0 q1 q2 q3 q4
          have q0 := HI.c0; have q1 := HI.c1; have q2 := HI.c2; have q3 := HI.c3; have q4 := HI.c4; refine bodyPost_ret (v := .tuple #[.agg #[.int .i64 1, .int .i64 ((v 0 : Nat) : Int), .int .i64 0, .int .i64 0, .int .i64 ((v 1 : Nat) : Int)], .int .i64 0]) (by simp [results, Tryz.results40, go_sem, q0, q1, q2, q3, q4]) rfl ⟨(by rw [HX2.out]; rfl), (bel5 HB9.out HRR.out)⟩
        · have HVI : Hid (∀ W, Calls Tryz.prog 38 #[.agg #[.int .i64 1, .int .i64 ((v 0 : Nat) : Int), .int .i64 0, .int .i64 0, .int .i64 ((v 1 : Nat) : Int)]] W fun e w' => e = .returned (.int .i64 103) ∧ Below W.heap.size W w') := Lib.hid (fun W => vi_is 1 ((v 0 : Nat) : Int) 0 0 ((v 1 : Nat) : Int) 103 (Lib.hid (codeI_no (by simpa using hok) (by decide))) W)
          have HX2 : Hid (X = ((0, 0, 0, 0, 0), some 2)) := Lib.hid (by rw [← hX.out]; show (if okB 1 ((v 0 : Nat) : Int) 0 0 ((v 1 : Nat) : Int) = true then _ else _) = _; rw [if_neg hok])
          clear hok
          go_upto_region 54 with (first | (go_at_call 38; (with_reducible refine (HVI.out _).mono ?_); rintro e w5 ⟨rfl, hb5⟩; have HJ9 := Lib.hid (HJ_2.out.below hb5); have HR9 := Lib.hid (HR_2.out.below hb5); have HB9 := Lib.hid (HB_2.out.trans (hb5.mono HB_2.out.size))))
          clear r0 r1 r2 r3 r4 rf hb5
          have r0 := HJ9.out.c0
          have r1 := HJ9.out.c1
          have r2 := HJ9.out.c2
          have r3 := HJ9.out.c3
          have r4 := HJ9.out.c4
          have q0 := HR9.out.c0
          have q1 := HR9.out.c1
          have q2 := HR9.out.c2
          have q3 := HR9.out.c3
          have q4 := HR9.out.c4
          have qf := HR9.out.fz
          go_wp2_with fail
          have HI := HR9.out.set5 0 0 0 0 0
          clear q0 q1 q2 q3 q4
          have q0 := HI.c0; have q1 := HI.c1; have q2 := HI.c2; have q3 := HI.c3; have q4 := HI.c4; refine bodyPost_ret (v := .tuple #[.agg #[.int .i64 0, .int .i64 0, .int .i64 0, .int .i64 0, .int .i64 0], .int .i64 103]) (by simp [results, Tryz.results40, go_sem, q0, q1, q2, q3, q4]) rfl ⟨(by rw [HX2.out]; rfl), (bel5 HB9.out HRR.out)⟩
      · clear y1 y13 y3 y11 e0 e3 e11 ho h0 h13
        obtain rfl : k = 2 := by rw [← HLL.out]; rfl
        rw [show ((2 : Nat) : Int) = 2 from rfl]
        obtain ⟨g2, hg2⟩ := own_some hrow (by decide)
        subst hg2
        have hJg : Hid (g2 ≠ J) := Lib.hid (fun e => by have h1 := (hrow.lt g2 rfl).1; have h2 := HB0'.out.2; have h3 := HJ3.out.lt; omega)
        have c0 : wr.cell? ⟨g2, 0, none⟩ = some (.int .i64 ((v 0 : Nat) : Int)) := hrow.cellAt 0 (by decide)
        have c1 : wr.cell? ⟨g2, 1, none⟩ = some (.int .i64 ((v 1 : Nat) : Int)) := hrow.cellAt 1 (by decide)
        have HJ_0 : Hid (I5 wr J 2 0 0 0 0) := Lib.hid (HJ3.out.below HBr.out)
        have HR_0 := Lib.hid (HR3.out.below HBr.out)
        have HB_0 := Lib.hid (HBW.out.trans (HBr.out.mono HBW.out.size))
        have r0 := HJ_0.out.c0
        have r1 := HJ_0.out.c1
        have r2 := HJ_0.out.c2
        have r3 := HJ_0.out.c3
        have r4 := HJ_0.out.c4
        have rf := HJ_0.out.fz
        clear hrow
        go_upto_region 31 with fail
        generalize hA : World.setCell wr _ _ = wA0
        have HJ_1 : Hid (I5 wA0 J 2 ((v 0 : Nat) : Int) 0 0 0) := Lib.hid (by rw [← hA]; exact HJ_0.out.put.2.1 _)
        have HR_1 := Lib.hid (HR_0.out.far HRJ.out.1 (i := 1) (v := .int .i64 ((v 0 : Nat) : Int)))
        have HB_1 : Hid (Below w.heap.size w wA0) := Lib.hid (by rw [← hA]; exact HB_0.out.setCell HRJ.out.2 _)
        rw [hA] at HR_1
        replace c0 : wA0.cell? ⟨g2, 0, none⟩ = some (.int .i64 ((v 0 : Nat) : Int)) := by rw [← hA]; exact (sc_far hJg.out).trans c0
        replace c1 : wA0.cell? ⟨g2, 1, none⟩ = some (.int .i64 ((v 1 : Nat) : Int)) := by rw [← hA]; exact (sc_far hJg.out).trans c1
        clear r0 r1 r2 r3 r4 rf hA
        have r0 := HJ_1.out.c0
        have r1 := HJ_1.out.c1
        have r2 := HJ_1.out.c2
        have r3 := HJ_1.out.c3
        have r4 := HJ_1.out.c4
        have rf := HJ_1.out.fz
        go_upto_region 53 with fail
        generalize hA : World.setCell wA0 _ _ = wA1
        have HJ_2 : Hid (I5 wA1 J 2 ((v 0 : Nat) : Int) 0 0 ((v 1 : Nat) : Int)) := Lib.hid (by rw [← hA]; exact HJ_1.out.put.2.2.2.2 _)
        have HR_2 := Lib.hid (HR_1.out.far HRJ.out.1 (i := 4) (v := .int .i64 ((v 1 : Nat) : Int)))
        have HB_2 : Hid (Below w.heap.size w wA1) := Lib.hid (by rw [← hA]; exact HB_1.out.setCell HRJ.out.2 _)
        rw [hA] at HR_2
        replace c0 : wA1.cell? ⟨g2, 0, none⟩ = some (.int .i64 ((v 0 : Nat) : Int)) := by rw [← hA]; exact (sc_far hJg.out).trans c0
        replace c1 : wA1.cell? ⟨g2, 1, none⟩ = some (.int .i64 ((v 1 : Nat) : Int)) := by rw [← hA]; exact (sc_far hJg.out).trans c1
        clear r0 r1 r2 r3 r4 rf hA
        have r0 := HJ_2.out.c0
        have r1 := HJ_2.out.c1
        have r2 := HJ_2.out.c2
        have r3 := HJ_2.out.c3
        have r4 := HJ_2.out.c4
        have rf := HJ_2.out.fz
        clear c0 c1
        by_cases hok : okB 2 ((v 0 : Nat) : Int) 0 0 ((v 1 : Nat) : Int) = true
        · have HVI : Hid (∀ W, Calls Tryz.prog 38 #[.agg #[.int .i64 2, .int .i64 ((v 0 : Nat) : Int), .int .i64 0, .int .i64 0, .int .i64 ((v 1 : Nat) : Int)]] W fun e w' => e = .returned (.int .i64 0) ∧ Below W.heap.size W w') := Lib.hid (fun W => vi_is 2 ((v 0 : Nat) : Int) 0 0 ((v 1 : Nat) : Int) 0 (Lib.hid (codeI_ok hok)) W)
          have HX2 : Hid (X = ((2, ((v 0 : Nat) : Int), 0, 0, ((v 1 : Nat) : Int)), none)) := Lib.hid (by rw [← hX.out]; show (if okB 2 ((v 0 : Nat) : Int) 0 0 ((v 1 : Nat) : Int) = true then _ else _) = _; rw [if_pos hok]; rfl)
          clear hok
          go_upto_region 54 with (first | (go_at_call 38; (with_reducible refine (HVI.out _).mono ?_); rintro e w5 ⟨rfl, hb5⟩; have HJ9 := Lib.hid (HJ_2.out.below hb5); have HR9 := Lib.hid (HR_2.out.below hb5); have HB9 := Lib.hid (HB_2.out.trans (hb5.mono HB_2.out.size))))
          clear r0 r1 r2 r3 r4 rf hb5
          have r0 := HJ9.out.c0
          have r1 := HJ9.out.c1
          have r2 := HJ9.out.c2
          have r3 := HJ9.out.c3
          have r4 := HJ9.out.c4
          have q0 := HR9.out.c0
          have q1 := HR9.out.c1
          have q2 := HR9.out.c2
          have q3 := HR9.out.c3
          have q4 := HR9.out.c4
          have qf := HR9.out.fz
          go_wp2_with fail
          have HI := HR9.out.set5 2 ((v 0 : Nat) : Int) 0 0 ((v 1 : Nat) : Int)
          clear q0 q1 q2 q3 q4
          have q0 := HI.c0; have q1 := HI.c1; have q2 := HI.c2; have q3 := HI.c3; have q4 := HI.c4; refine bodyPost_ret (v := .tuple #[.agg #[.int .i64 2, .int .i64 ((v 0 : Nat) : Int), .int .i64 0, .int .i64 0, .int .i64 ((v 1 : Nat) : Int)], .int .i64 0]) (by simp [results, Tryz.results40, go_sem, q0, q1, q2, q3, q4]) rfl ⟨(by rw [HX2.out]; rfl), (bel5 HB9.out HRR.out)⟩
        · have HVI : Hid (∀ W, Calls Tryz.prog 38 #[.agg #[.int .i64 2, .int .i64 ((v 0 : Nat) : Int), .int .i64 0, .int .i64 0, .int .i64 ((v 1 : Nat) : Int)]] W fun e w' => e = .returned (.int .i64 103) ∧ Below W.heap.size W w') := Lib.hid (fun W => vi_is 2 ((v 0 : Nat) : Int) 0 0 ((v 1 : Nat) : Int) 103 (Lib.hid (codeI_no (by simpa using hok) (by decide))) W)
          have HX2 : Hid (X = ((0, 0, 0, 0, 0), some 2)) := Lib.hid (by rw [← hX.out]; show (if okB 2 ((v 0 : Nat) : Int) 0 0 ((v 1 : Nat) : Int) = true then _ else _) = _; rw [if_neg hok])
          clear hok
          go_upto_region 54 with (first | (go_at_call 38; (with_reducible refine (HVI.out _).mono ?_); rintro e w5 ⟨rfl, hb5⟩; have HJ9 := Lib.hid (HJ_2.out.below hb5); have HR9 := Lib.hid (HR_2.out.below hb5); have HB9 := Lib.hid (HB_2.out.trans (hb5.mono HB_2.out.size))))
          clear r0 r1 r2 r3 r4 rf hb5
          have r0 := HJ9.out.c0
          have r1 := HJ9.out.c1
          have r2 := HJ9.out.c2
          have r3 := HJ9.out.c3
          have r4 := HJ9.out.c4
          have q0 := HR9.out.c0
          have q1 := HR9.out.c1
          have q2 := HR9.out.c2
          have q3 := HR9.out.c3
          have q4 := HR9.out.c4
          have qf := HR9.out.fz
          go_wp2_with fail
          have HI := HR9.out.set5 0 0 0 0 0
          clear q0 q1 q2 q3 q4
          have q0 := HI.c0; have q1 := HI.c1; have q2 := HI.c2; have q3 := HI.c3; have q4 := HI.c4; refine bodyPost_ret (v := .tuple #[.agg #[.int .i64 0, .int .i64 0, .int .i64 0, .int .i64 0, .int .i64 0], .int .i64 103]) (by simp [results, Tryz.results40, go_sem, q0, q1, q2, q3, q4]) rfl ⟨(by rw [HX2.out]; rfl), (bel5 HB9.out HRR.out)⟩
      · clear y1 y13 y3 y11 e0 e3 e11 ho h0 h13
        obtain rfl : k = 1 := by rw [← HLL.out]; rfl
        rw [show ((4 : Nat) : Int) = 4 from rfl]
        obtain ⟨g2, hg2⟩ := own_some hrow (by decide)
        subst hg2
        have hJg : Hid (g2 ≠ J) := Lib.hid (fun e => by have h1 := (hrow.lt g2 rfl).1; have h2 := HB0'.out.2; have h3 := HJ3.out.lt; omega)
        have c0 : wr.cell? ⟨g2, 0, none⟩ = some (.int .i64 ((v 0 : Nat) : Int)) := hrow.cellAt 0 (by decide)
        have HJ_0 : Hid (I5 wr J 4 0 0 0 0) := Lib.hid (HJ3.out.below HBr.out)
        have HR_0 := Lib.hid (HR3.out.below HBr.out)
        have HB_0 := Lib.hid (HBW.out.trans (HBr.out.mono HBW.out.size))
        have r0 := HJ_0.out.c0
        have r1 := HJ_0.out.c1
        have r2 := HJ_0.out.c2
        have r3 := HJ_0.out.c3
        have r4 := HJ_0.out.c4
        have rf := HJ_0.out.fz
        clear hrow
        go_upto_region 53 with fail
        generalize hA : World.setCell wr _ _ = wA0
        have HJ_1 : Hid (I5 wA0 J 4 0 0 0 ((v 0 : Nat) : Int)) := Lib.hid (by rw [← hA]; exact HJ_0.out.put.2.2.2.2 _)
        have HR_1 := Lib.hid (HR_0.out.far HRJ.out.1 (i := 4) (v := .int .i64 ((v 0 : Nat) : Int)))
        have HB_1 : Hid (Below w.heap.size w wA0) := Lib.hid (by rw [← hA]; exact HB_0.out.setCell HRJ.out.2 _)
        rw [hA] at HR_1
        replace c0 : wA0.cell? ⟨g2, 0, none⟩ = some (.int .i64 ((v 0 : Nat) : Int)) := by rw [← hA]; exact (sc_far hJg.out).trans c0
        clear r0 r1 r2 r3 r4 rf hA
        have r0 := HJ_1.out.c0
        have r1 := HJ_1.out.c1
        have r2 := HJ_1.out.c2
        have r3 := HJ_1.out.c3
        have r4 := HJ_1.out.c4
        have rf := HJ_1.out.fz
        clear c0
        by_cases hok : okB 4 0 0 0 ((v 0 : Nat) : Int) = true
        · have HVI : Hid (∀ W, Calls Tryz.prog 38 #[.agg #[.int .i64 4, .int .i64 0, .int .i64 0, .int .i64 0, .int .i64 ((v 0 : Nat) : Int)]] W fun e w' => e = .returned (.int .i64 0) ∧ Below W.heap.size W w') := Lib.hid (fun W => vi_is 4 0 0 0 ((v 0 : Nat) : Int) 0 (Lib.hid (codeI_ok hok)) W)
          have HX2 : Hid (X = ((4, 0, 0, 0, ((v 0 : Nat) : Int)), none)) := Lib.hid (by rw [← hX.out]; show (if okB 4 0 0 0 ((v 0 : Nat) : Int) = true then _ else _) = _; rw [if_pos hok]; rfl)
          clear hok
          go_upto_region 54 with (first | (go_at_call 38; (with_reducible refine (HVI.out _).mono ?_); rintro e w5 ⟨rfl, hb5⟩; have HJ9 := Lib.hid (HJ_1.out.below hb5); have HR9 := Lib.hid (HR_1.out.below hb5); have HB9 := Lib.hid (HB_1.out.trans (hb5.mono HB_1.out.size))))
          clear r0 r1 r2 r3 r4 rf hb5
          have r0 := HJ9.out.c0
          have r1 := HJ9.out.c1
          have r2 := HJ9.out.c2
          have r3 := HJ9.out.c3
          have r4 := HJ9.out.c4
          have q0 := HR9.out.c0
          have q1 := HR9.out.c1
          have q2 := HR9.out.c2
          have q3 := HR9.out.c3
          have q4 := HR9.out.c4
          have qf := HR9.out.fz
          go_wp2_with fail
          have HI := HR9.out.set5 4 0 0 0 ((v 0 : Nat) : Int)
          clear q0 q1 q2 q3 q4
          have q0 := HI.c0; have q1 := HI.c1; have q2 := HI.c2; have q3 := HI.c3; have q4 := HI.c4; refine bodyPost_ret (v := .tuple #[.agg #[.int .i64 4, .int .i64 0, .int .i64 0, .int .i64 0, .int .i64 ((v 0 : Nat) : Int)], .int .i64 0]) (by simp [results, Tryz.results40, go_sem, q0, q1, q2, q3, q4]) rfl ⟨(by rw [HX2.out]; rfl), (bel5 HB9.out HRR.out)⟩
        · have HVI : Hid (∀ W, Calls Tryz.prog 38 #[.agg #[.int .i64 4, .int .i64 0, .int .i64 0, .int .i64 0, .int .i64 ((v 0 : Nat) : Int)]] W fun e w' => e = .returned (.int .i64 103) ∧ Below W.heap.size W w') := Lib.hid (fun W => vi_is 4 0 0 0 ((v 0 : Nat) : Int) 103 (Lib.hid (codeI_no (by simpa using hok) (by decide))) W)
          have HX2 : Hid (X = ((0, 0, 0, 0, 0), some 2)) := Lib.hid (by rw [← hX.out]; show (if okB 4 0 0 0 ((v 0 : Nat) : Int) = true then _ else _) = _; rw [if_neg hok])
          clear hok
          go_upto_region 54 with (first | (go_at_call 38; (with_reducible refine (HVI.out _).mono ?_); rintro e w5 ⟨rfl, hb5⟩; have HJ9 := Lib.hid (HJ_1.out.below hb5); have HR9 := Lib.hid (HR_1.out.below hb5); have HB9 := Lib.hid (HB_1.out.trans (hb5.mono HB_1.out.size))))
          clear r0 r1 r2 r3 r4 rf hb5
          have r0 := HJ9.out.c0
          have r1 := HJ9.out.c1
          have r2 := HJ9.out.c2
          have r3 := HJ9.out.c3
          have r4 := HJ9.out.c4
          have q0 := HR9.out.c0
          have q1 := HR9.out.c1
          have q2 := HR9.out.c2
          have q3 := HR9.out.c3
          have q4 := HR9.out.c4
          have qf := HR9.out.fz
          go_wp2_with fail
          have HI := HR9.out.set5 0 0 0 0 0
          clear q0 q1 q2 q3 q4
          have q0 := HI.c0; have q1 := HI.c1; have q2 := HI.c2; have q3 := HI.c3; have q4 := HI.c4; refine bodyPost_ret (v := .tuple #[.agg #[.int .i64 0, .int .i64 0, .int .i64 0, .int .i64 0, .int .i64 0], .int .i64 103]) (by simp [results, Tryz.results40, go_sem, q0, q1, q2, q3, q4]) rfl ⟨(by rw [HX2.out]; rfl), (bel5 HB9.out HRR.out)⟩
      · clear y1 y13 y3 y11 e0 e3 e11 ho h0 h13
        obtain rfl : k = 2 := by rw [← HLL.out]; rfl
        rw [show ((5 : Nat) : Int) = 5 from rfl]
        obtain ⟨g2, hg2⟩ := own_some hrow (by decide)
        subst hg2
        have hJg : Hid (g2 ≠ J) := Lib.hid (fun e => by have h1 := (hrow.lt g2 rfl).1; have h2 := HB0'.out.2; have h3 := HJ3.out.lt; omega)
        have c0 : wr.cell? ⟨g2, 0, none⟩ = some (.int .i64 ((v 0 : Nat) : Int)) := hrow.cellAt 0 (by decide)
        have c1 : wr.cell? ⟨g2, 1, none⟩ = some (.int .i64 ((v 1 : Nat) : Int)) := hrow.cellAt 1 (by decide)
        have HJ_0 : Hid (I5 wr J 5 0 0 0 0) := Lib.hid (HJ3.out.below HBr.out)
        have HR_0 := Lib.hid (HR3.out.below HBr.out)
        have HB_0 := Lib.hid (HBW.out.trans (HBr.out.mono HBW.out.size))
        have r0 := HJ_0.out.c0
        have r1 := HJ_0.out.c1
        have r2 := HJ_0.out.c2
        have r3 := HJ_0.out.c3
        have r4 := HJ_0.out.c4
        have rf := HJ_0.out.fz
        clear hrow
        go_upto_region 31 with fail
        generalize hA : World.setCell wr _ _ = wA0
        have HJ_1 : Hid (I5 wA0 J 5 ((v 0 : Nat) : Int) 0 0 0) := Lib.hid (by rw [← hA]; exact HJ_0.out.put.2.1 _)
        have HR_1 := Lib.hid (HR_0.out.far HRJ.out.1 (i := 1) (v := .int .i64 ((v 0 : Nat) : Int)))
        have HB_1 : Hid (Below w.heap.size w wA0) := Lib.hid (by rw [← hA]; exact HB_0.out.setCell HRJ.out.2 _)
        rw [hA] at HR_1
        replace c0 : wA0.cell? ⟨g2, 0, none⟩ = some (.int .i64 ((v 0 : Nat) : Int)) := by rw [← hA]; exact (sc_far hJg.out).trans c0
        replace c1 : wA0.cell? ⟨g2, 1, none⟩ = some (.int .i64 ((v 1 : Nat) : Int)) := by rw [← hA]; exact (sc_far hJg.out).trans c1
        clear r0 r1 r2 r3 r4 rf hA
        have r0 := HJ_1.out.c0
        have r1 := HJ_1.out.c1
        have r2 := HJ_1.out.c2
        have r3 := HJ_1.out.c3
        have r4 := HJ_1.out.c4
        have rf := HJ_1.out.fz
        go_upto_region 53 with fail
        generalize hA : World.setCell wA0 _ _ = wA1
        have HJ_2 : Hid (I5 wA1 J 5 ((v 0 : Nat) : Int) 0 0 ((v 1 : Nat) : Int)) := Lib.hid (by rw [← hA]; exact HJ_1.out.put.2.2.2.2 _)
        have HR_2 := Lib.hid (HR_1.out.far HRJ.out.1 (i := 4) (v := .int .i64 ((v 1 : Nat) : Int)))
        have HB_2 : Hid (Below w.heap.size w wA1) := Lib.hid (by rw [← hA]; exact HB_1.out.setCell HRJ.out.2 _)
        rw [hA] at HR_2
        replace c0 : wA1.cell? ⟨g2, 0, none⟩ = some (.int .i64 ((v 0 : Nat) : Int)) := by rw [← hA]; exact (sc_far hJg.out).trans c0
        replace c1 : wA1.cell? ⟨g2, 1, none⟩ = some (.int .i64 ((v 1 : Nat) : Int)) := by rw [← hA]; exact (sc_far hJg.out).trans c1
        clear r0 r1 r2 r3 r4 rf hA
        have r0 := HJ_2.out.c0
        have r1 := HJ_2.out.c1
        have r2 := HJ_2.out.c2
        have r3 := HJ_2.out.c3
        have r4 := HJ_2.out.c4
        have rf := HJ_2.out.fz
        clear c0 c1
        by_cases hok : okB 5 ((v 0 : Nat) : Int) 0 0 ((v 1 : Nat) : Int) = true
        · have HVI : Hid (∀ W, Calls Tryz.prog 38 #[.agg #[.int .i64 5, .int .i64 ((v 0 : Nat) : Int), .int .i64 0, .int .i64 0, .int .i64 ((v 1 : Nat) : Int)]] W fun e w' => e = .returned (.int .i64 0) ∧ Below W.heap.size W w') := Lib.hid (fun W => vi_is 5 ((v 0 : Nat) : Int) 0 0 ((v 1 : Nat) : Int) 0 (Lib.hid (codeI_ok hok)) W)
          have HX2 : Hid (X = ((5, ((v 0 : Nat) : Int), 0, 0, ((v 1 : Nat) : Int)), none)) := Lib.hid (by rw [← hX.out]; show (if okB 5 ((v 0 : Nat) : Int) 0 0 ((v 1 : Nat) : Int) = true then _ else _) = _; rw [if_pos hok]; rfl)
          clear hok
          go_upto_region 54 with (first | (go_at_call 38; (with_reducible refine (HVI.out _).mono ?_); rintro e w5 ⟨rfl, hb5⟩; have HJ9 := Lib.hid (HJ_2.out.below hb5); have HR9 := Lib.hid (HR_2.out.below hb5); have HB9 := Lib.hid (HB_2.out.trans (hb5.mono HB_2.out.size))))
          clear r0 r1 r2 r3 r4 rf hb5
          have r0 := HJ9.out.c0
          have r1 := HJ9.out.c1
          have r2 := HJ9.out.c2
          have r3 := HJ9.out.c3
          have r4 := HJ9.out.c4
          have q0 := HR9.out.c0
          have q1 := HR9.out.c1
          have q2 := HR9.out.c2
          have q3 := HR9.out.c3
          have q4 := HR9.out.c4
          have qf := HR9.out.fz
          go_wp2_with fail
          have HI := HR9.out.set5 5 ((v 0 : Nat) : Int) 0 0 ((v 1 : Nat) : Int)
          clear q0 q1 q2 q3 q4
          have q0 := HI.c0; have q1 := HI.c1; have q2 := HI.c2; have q3 := HI.c3; have q4 := HI.c4; refine bodyPost_ret (v := .tuple #[.agg #[.int .i64 5, .int .i64 ((v 0 : Nat) : Int), .int .i64 0, .int .i64 0, .int .i64 ((v 1 : Nat) : Int)], .int .i64 0]) (by simp [results, Tryz.results40, go_sem, q0, q1, q2, q3, q4]) rfl ⟨(by rw [HX2.out]; rfl), (bel5 HB9.out HRR.out)⟩
        · have HVI : Hid (∀ W, Calls Tryz.prog 38 #[.agg #[.int .i64 5, .int .i64 ((v 0 : Nat) : Int), .int .i64 0, .int .i64 0, .int .i64 ((v 1 : Nat) : Int)]] W fun e w' => e = .returned (.int .i64 103) ∧ Below W.heap.size W w') := Lib.hid (fun W => vi_is 5 ((v 0 : Nat) : Int) 0 0 ((v 1 : Nat) : Int) 103 (Lib.hid (codeI_no (by simpa using hok) (by decide))) W)
          have HX2 : Hid (X = ((0, 0, 0, 0, 0), some 2)) := Lib.hid (by rw [← hX.out]; show (if okB 5 ((v 0 : Nat) : Int) 0 0 ((v 1 : Nat) : Int) = true then _ else _) = _; rw [if_neg hok])
          clear hok
          go_upto_region 54 with (first | (go_at_call 38; (with_reducible refine (HVI.out _).mono ?_); rintro e w5 ⟨rfl, hb5⟩; have HJ9 := Lib.hid (HJ_2.out.below hb5); have HR9 := Lib.hid (HR_2.out.below hb5); have HB9 := Lib.hid (HB_2.out.trans (hb5.mono HB_2.out.size))))
          clear r0 r1 r2 r3 r4 rf hb5
          have r0 := HJ9.out.c0
          have r1 := HJ9.out.c1
          have r2 := HJ9.out.c2
          have r3 := HJ9.out.c3
          have r4 := HJ9.out.c4
          have q0 := HR9.out.c0
          have q1 := HR9.out.c1
          have q2 := HR9.out.c2
          have q3 := HR9.out.c3
          have q4 := HR9.out.c4
          have qf := HR9.out.fz
          go_wp2_with fail
          have HI := HR9.out.set5 0 0 0 0 0
          clear q0 q1 q2 q3 q4
          have q0 := HI.c0; have q1 := HI.c1; have q2 := HI.c2; have q3 := HI.c3; have q4 := HI.c4; refine bodyPost_ret (v := .tuple #[.agg #[.int .i64 0, .int .i64 0, .int .i64 0, .int .i64 0, .int .i64 0], .int .i64 103]) (by simp [results, Tryz.results40, go_sem, q0, q1, q2, q3, q4]) rfl ⟨(by rw [HX2.out]; rfl), (bel5 HB9.out HRR.out)⟩
      · clear y1 y13 y3 y11 e0 e3 e11 ho h0 h13
        obtain rfl : k = 3 := by rw [← HLL.out]; rfl
        rw [show ((6 : Nat) : Int) = 6 from rfl]
        obtain ⟨g2, hg2⟩ := own_some hrow (by decide)
        subst hg2
        have hJg : Hid (g2 ≠ J) := Lib.hid (fun e => by have h1 := (hrow.lt g2 rfl).1; have h2 := HB0'.out.2; have h3 := HJ3.out.lt; omega)
        have c0 : wr.cell? ⟨g2, 0, none⟩ = some (.int .i64 ((v 0 : Nat) : Int)) := hrow.cellAt 0 (by decide)
        have c1 : wr.cell? ⟨g2, 1, none⟩ = some (.int .i64 ((v 1 : Nat) : Int)) := hrow.cellAt 1 (by decide)
        have c2 : wr.cell? ⟨g2, 2, none⟩ = some (.int .i64 ((v 2 : Nat) : Int)) := hrow.cellAt 2 (by decide)
        have HJ_0 : Hid (I5 wr J 6 0 0 0 0) := Lib.hid (HJ3.out.below HBr.out)
        have HR_0 := Lib.hid (HR3.out.below HBr.out)
        have HB_0 := Lib.hid (HBW.out.trans (HBr.out.mono HBW.out.size))
        have r0 := HJ_0.out.c0
        have r1 := HJ_0.out.c1
        have r2 := HJ_0.out.c2
        have r3 := HJ_0.out.c3
        have r4 := HJ_0.out.c4
        have rf := HJ_0.out.fz
        clear hrow
        go_upto_region 42 with fail
        generalize hA : World.setCell wr _ _ = wA0
        have HJ_1 : Hid (I5 wA0 J 6 ((v 0 : Nat) : Int) 0 0 0) := Lib.hid (by rw [← hA]; exact HJ_0.out.put.2.1 _)
        have HR_1 := Lib.hid (HR_0.out.far HRJ.out.1 (i := 1) (v := .int .i64 ((v 0 : Nat) : Int)))
        have HB_1 : Hid (Below w.heap.size w wA0) := Lib.hid (by rw [← hA]; exact HB_0.out.setCell HRJ.out.2 _)
        rw [hA] at HR_1
        replace c0 : wA0.cell? ⟨g2, 0, none⟩ = some (.int .i64 ((v 0 : Nat) : Int)) := by rw [← hA]; exact (sc_far hJg.out).trans c0
        replace c1 : wA0.cell? ⟨g2, 1, none⟩ = some (.int .i64 ((v 1 : Nat) : Int)) := by rw [← hA]; exact (sc_far hJg.out).trans c1
        replace c2 : wA0.cell? ⟨g2, 2, none⟩ = some (.int .i64 ((v 2 : Nat) : Int)) := by rw [← hA]; exact (sc_far hJg.out).trans c2
        clear r0 r1 r2 r3 r4 rf hA
        have r0 := HJ_1.out.c0
        have r1 := HJ_1.out.c1
        have r2 := HJ_1.out.c2
        have r3 := HJ_1.out.c3
        have r4 := HJ_1.out.c4
        have rf := HJ_1.out.fz
        go_upto_region 43 with fail
        generalize hA : World.setCell wA0 _ _ = wA1
        have HJ_2 : Hid (I5 wA1 J 6 ((v 0 : Nat) : Int) ((v 1 : Nat) : Int) 0 0) := Lib.hid (by rw [← hA]; exact HJ_1.out.put.2.2.1 _)
        have HR_2 := Lib.hid (HR_1.out.far HRJ.out.1 (i := 2) (v := .int .i64 ((v 1 : Nat) : Int)))
        have HB_2 : Hid (Below w.heap.size w wA1) := Lib.hid (by rw [← hA]; exact HB_1.out.setCell HRJ.out.2 _)
        rw [hA] at HR_2
        replace c0 : wA1.cell? ⟨g2, 0, none⟩ = some (.int .i64 ((v 0 : Nat) : Int)) := by rw [← hA]; exact (sc_far hJg.out).trans c0
        replace c1 : wA1.cell? ⟨g2, 1, none⟩ = some (.int .i64 ((v 1 : Nat) : Int)) := by rw [← hA]; exact (sc_far hJg.out).trans c1
        replace c2 : wA1.cell? ⟨g2, 2, none⟩ = some (.int .i64 ((v 2 : Nat) : Int)) := by rw [← hA]; exact (sc_far hJg.out).trans c2
        clear r0 r1 r2 r3 r4 rf hA
        have r0 := HJ_2.out.c0
        have r1 := HJ_2.out.c1
        have r2 := HJ_2.out.c2
        have r3 := HJ_2.out.c3
        have r4 := HJ_2.out.c4
        have rf := HJ_2.out.fz
        go_upto_region 53 with fail
        generalize hA : World.setCell wA1 _ _ = wA2
        have HJ_3 : Hid (I5 wA2 J 6 ((v 0 : Nat) : Int) ((v 1 : Nat) : Int) 0 ((v 2 : Nat) : Int)) := Lib.hid (by rw [← hA]; exact HJ_2.out.put.2.2.2.2 _)
        have HR_3 := Lib.hid (HR_2.out.far HRJ.out.1 (i := 4) (v := .int .i64 ((v 2 : Nat) : Int)))
        have HB_3 : Hid (Below w.heap.size w wA2) := Lib.hid (by rw [← hA]; exact HB_2.out.setCell HRJ.out.2 _)
        rw [hA] at HR_3
        replace c0 : wA2.cell? ⟨g2, 0, none⟩ = some (.int .i64 ((v 0 : Nat) : Int)) := by rw [← hA]; exact (sc_far hJg.out).trans c0
        replace c1 : wA2.cell? ⟨g2, 1, none⟩ = some (.int .i64 ((v 1 : Nat) : Int)) := by rw [← hA]; exact (sc_far hJg.out).trans c1
        replace c2 : wA2.cell? ⟨g2, 2, none⟩ = some (.int .i64 ((v 2 : Nat) : Int)) := by rw [← hA]; exact (sc_far hJg.out).trans c2
        clear r0 r1 r2 r3 r4 rf hA
        have r0 := HJ_3.out.c0
        have r1 := HJ_3.out.c1
        have r2 := HJ_3.out.c2
        have r3 := HJ_3.out.c3
        have r4 := HJ_3.out.c4
        have rf := HJ_3.out.fz
        clear c0 c1 c2
        by_cases hok : okB 6 ((v 0 : Nat) : Int) ((v 1 : Nat) : Int) 0 ((v 2 : Nat) : Int) = true
        · have HVI : Hid (∀ W, Calls Tryz.prog 38 #[.agg #[.int .i64 6, .int .i64 ((v 0 : Nat) : Int), .int .i64 ((v 1 : Nat) : Int), .int .i64 0, .int .i64 ((v 2 : Nat) : Int)]] W fun e w' => e = .returned (.int .i64 0) ∧ Below W.heap.size W w') := Lib.hid (fun W => vi_is 6 ((v 0 : Nat) : Int) ((v 1 : Nat) : Int) 0 ((v 2 : Nat) : Int) 0 (Lib.hid (codeI_ok hok)) W)
          have HX2 : Hid (X = ((6, ((v 0 : Nat) : Int), ((v 1 : Nat) : Int), 0, ((v 2 : Nat) : Int)), none)) := Lib.hid (by rw [← hX.out]; show (if okB 6 ((v 0 : Nat) : Int) ((v 1 : Nat) : Int) 0 ((v 2 : Nat) : Int) = true then _ else _) = _; rw [if_pos hok]; rfl)
          clear hok
          go_upto_region 54 with (first | (go_at_call 38; (with_reducible refine (HVI.out _).mono ?_); rintro e w5 ⟨rfl, hb5⟩; have HJ9 := Lib.hid (HJ_3.out.below hb5); have HR9 := Lib.hid (HR_3.out.below hb5); have HB9 := Lib.hid (HB_3.out.trans (hb5.mono HB_3.out.size))))
          clear r0 r1 r2 r3 r4 rf hb5
          have r0 := HJ9.out.c0
          have r1 := HJ9.out.c1
          have r2 := HJ9.out.c2
          have r3 := HJ9.out.c3
          have r4 := HJ9.out.c4
          have q0 := HR9.out.c0
          have q1 := HR9.out.c1
          have q2 := HR9.out.c2
          have q3 := HR9.out.c3
          have q4 := HR9.out.c4
          have qf := HR9.out.fz
          go_wp2_with fail
          have HI := HR9.out.set5 6 ((v 0 : Nat) : Int) ((v 1 : Nat) : Int) 0 ((v 2 : Nat) : Int)
          clear q0 q1 q2 q3 q4
          have q0 := HI.c0; have q1 := HI.c1; have q2 := HI.c2; have q3 := HI.c3; have q4 := HI.c4; refine bodyPost_ret (v := .tuple #[.agg #[.int .i64 6, .int .i64 ((v 0 : Nat) : Int), .int .i64 ((v 1 : Nat) : Int), .int .i64 0, .int .i64 ((v 2 : Nat) : Int)], .int .i64 0]) (by simp [results, Tryz.results40, go_sem, q0, q1, q2, q3, q4]) rfl ⟨(by rw [HX2.out]; rfl), (bel5 HB9.out HRR.out)⟩
        · have HVI : Hid (∀ W, Calls Tryz.prog 38 #[.agg #[.int .i64 6, .int .i64 ((v 0 : Nat) : Int), .int .i64 ((v 1 : Nat) : Int), .int .i64 0, .int .i64 ((v 2 : Nat) : Int)]] W fun e w' => e = .returned (.int .i64 103) ∧ Below W.heap.size W w') := Lib.hid (fun W => vi_is 6 ((v 0 : Nat) : Int) ((v 1 : Nat) : Int) 0 ((v 2 : Nat) : Int) 103 (Lib.hid (codeI_no (by simpa using hok) (by decide))) W)
          have HX2 : Hid (X = ((0, 0, 0, 0, 0), some 2)) := Lib.hid (by rw [← hX.out]; show (if okB 6 ((v 0 : Nat) : Int) ((v 1 : Nat) : Int) 0 ((v 2 : Nat) : Int) = true then _ else _) = _; rw [if_neg hok])
          clear hok
          go_upto_region 54 with (first | (go_at_call 38; (with_reducible refine (HVI.out _).mono ?_); rintro e w5 ⟨rfl, hb5⟩; have HJ9 := Lib.hid (HJ_3.out.below hb5); have HR9 := Lib.hid (HR_3.out.below hb5); have HB9 := Lib.hid (HB_3.out.trans (hb5.mono HB_3.out.size))))
          clear r0 r1 r2 r3 r4 rf hb5
          have r0 := HJ9.out.c0
          have r1 := HJ9.out.c1
          have r2 := HJ9.out.c2
          have r3 := HJ9.out.c3
          have r4 := HJ9.out.c4
          have q0 := HR9.out.c0
          have q1 := HR9.out.c1
          have q2 := HR9.out.c2
          have q3 := HR9.out.c3
          have q4 := HR9.out.c4
          have qf := HR9.out.fz
          go_wp2_with fail
          have HI := HR9.out.set5 0 0 0 0 0
          clear q0 q1 q2 q3 q4
          have q0 := HI.c0; have q1 := HI.c1; have q2 := HI.c2; have q3 := HI.c3; have q4 := HI.c4; refine bodyPost_ret (v := .tuple #[.agg #[.int .i64 0, .int .i64 0, .int .i64 0, .int .i64 0, .int .i64 0], .int .i64 103]) (by simp [results, Tryz.results40, go_sem, q0, q1, q2, q3, q4]) rfl ⟨(by rw [HX2.out]; rfl), (bel5 HB9.out HRR.out)⟩
      · clear y1 y13 y3 y11 e0 e3 e11 ho h0 h13
        obtain rfl : k = 3 := by rw [← HLL.out]; rfl
        rw [show ((7 : Nat) : Int) = 7 from rfl]
        obtain ⟨g2, hg2⟩ := own_some hrow (by decide)
        subst hg2
        have hJg : Hid (g2 ≠ J) := Lib.hid (fun e => by have h1 := (hrow.lt g2 rfl).1; have h2 := HB0'.out.2; have h3 := HJ3.out.lt; omega)
        have c0 : wr.cell? ⟨g2, 0, none⟩ = some (.int .i64 ((v 0 : Nat) : Int)) := hrow.cellAt 0 (by decide)
        have c1 : wr.cell? ⟨g2, 1, none⟩ = some (.int .i64 ((v 1 : Nat) : Int)) := hrow.cellAt 1 (by decide)
        have c2 : wr.cell? ⟨g2, 2, none⟩ = some (.int .i64 ((v 2 : Nat) : Int)) := hrow.cellAt 2 (by decide)
        have HJ_0 : Hid (I5 wr J 7 0 0 0 0) := Lib.hid (HJ3.out.below HBr.out)
        have HR_0 := Lib.hid (HR3.out.below HBr.out)
        have HB_0 := Lib.hid (HBW.out.trans (HBr.out.mono HBW.out.size))
        have r0 := HJ_0.out.c0
        have r1 := HJ_0.out.c1
        have r2 := HJ_0.out.c2
        have r3 := HJ_0.out.c3
        have r4 := HJ_0.out.c4
        have rf := HJ_0.out.fz
        clear hrow
        go_upto_region 42 with fail
        generalize hA : World.setCell wr _ _ = wA0
        have HJ_1 : Hid (I5 wA0 J 7 ((v 0 : Nat) : Int) 0 0 0) := Lib.hid (by rw [← hA]; exact HJ_0.out.put.2.1 _)
        have HR_1 := Lib.hid (HR_0.out.far HRJ.out.1 (i := 1) (v := .int .i64 ((v 0 : Nat) : Int)))
        have HB_1 : Hid (Below w.heap.size w wA0) := Lib.hid (by rw [← hA]; exact HB_0.out.setCell HRJ.out.2 _)
        rw [hA] at HR_1
        replace c0 : wA0.cell? ⟨g2, 0, none⟩ = some (.int .i64 ((v 0 : Nat) : Int)) := by rw [← hA]; exact (sc_far hJg.out).trans c0
        replace c1 : wA0.cell? ⟨g2, 1, none⟩ = some (.int .i64 ((v 1 : Nat) : Int)) := by rw [← hA]; exact (sc_far hJg.out).trans c1
        replace c2 : wA0.cell? ⟨g2, 2, none⟩ = some (.int .i64 ((v 2 : Nat) : Int)) := by rw [← hA]; exact (sc_far hJg.out).trans c2
        clear r0 r1 r2 r3 r4 rf hA
        have r0 := HJ_1.out.c0
        have r1 := HJ_1.out.c1
        have r2 := HJ_1.out.c2
        have r3 := HJ_1.out.c3
        have r4 := HJ_1.out.c4
        have rf := HJ_1.out.fz
        go_upto_region 43 with fail
        generalize hA : World.setCell wA0 _ _ = wA1
        have HJ_2 : Hid (I5 wA1 J 7 ((v 0 : Nat) : Int) ((v 1 : Nat) : Int) 0 0) := Lib.hid (by rw [← hA]; exact HJ_1.out.put.2.2.1 _)
        have HR_2 := Lib.hid (HR_1.out.far HRJ.out.1 (i := 2) (v := .int .i64 ((v 1 : Nat) : Int)))
        have HB_2 : Hid (Below w.heap.size w wA1) := Lib.hid (by rw [← hA]; exact HB_1.out.setCell HRJ.out.2 _)
        rw [hA] at HR_2
        replace c0 : wA1.cell? ⟨g2, 0, none⟩ = some (.int .i64 ((v 0 : Nat) : Int)) := by rw [← hA]; exact (sc_far hJg.out).trans c0
        replace c1 : wA1.cell? ⟨g2, 1, none⟩ = some (.int .i64 ((v 1 : Nat) : Int)) := by rw [← hA]; exact (sc_far hJg.out).trans c1
        replace c2 : wA1.cell? ⟨g2, 2, none⟩ = some (.int .i64 ((v 2 : Nat) : Int)) := by rw [← hA]; exact (sc_far hJg.out).trans c2
        clear r0 r1 r2 r3 r4 rf hA
        have r0 := HJ_2.out.c0
        have r1 := HJ_2.out.c1
        have r2 := HJ_2.out.c2
        have r3 := HJ_2.out.c3
        have r4 := HJ_2.out.c4
        have rf := HJ_2.out.fz
        go_upto_region 53 with fail
        generalize hA : World.setCell wA1 _ _ = wA2
        have HJ_3 : Hid (I5 wA2 J 7 ((v 0 : Nat) : Int) ((v 1 : Nat) : Int) 0 ((v 2 : Nat) : Int)) := Lib.hid (by rw [← hA]; exact HJ_2.out.put.2.2.2.2 _)
        have HR_3 := Lib.hid (HR_2.out.far HRJ.out.1 (i := 4) (v := .int .i64 ((v 2 : Nat) : Int)))
        have HB_3 : Hid (Below w.heap.size w wA2) := Lib.hid (by rw [← hA]; exact HB_2.out.setCell HRJ.out.2 _)
        rw [hA] at HR_3
        replace c0 : wA2.cell? ⟨g2, 0, none⟩ = some (.int .i64 ((v 0 : Nat) : Int)) := by rw [← hA]; exact (sc_far hJg.out).trans c0
        replace c1 : wA2.cell? ⟨g2, 1, none⟩ = some (.int .i64 ((v 1 : Nat) : Int)) := by rw [← hA]; exact (sc_far hJg.out).trans c1
        replace c2 : wA2.cell? ⟨g2, 2, none⟩ = some (.int .i64 ((v 2 : Nat) : Int)) := by rw [← hA]; exact (sc_far hJg.out).trans c2
        clear r0 r1 r2 r3 r4 rf hA
        have r0 := HJ_3.out.c0
        have r1 := HJ_3.out.c1
        have r2 := HJ_3.out.c2
        have r3 := HJ_3.out.c3
        have r4 := HJ_3.out.c4
        have rf := HJ_3.out.fz
        clear c0 c1 c2
        by_cases hok : okB 7 ((v 0 : Nat) : Int) ((v 1 : Nat) : Int) 0 ((v 2 : Nat) : Int) = true
        · have HVI : Hid (∀ W, Calls Tryz.prog 38 #[.agg #[.int .i64 7, .int .i64 ((v 0 : Nat) : Int), .int .i64 ((v 1 : Nat) : Int), .int .i64 0, .int .i64 ((v 2 : Nat) : Int)]] W fun e w' => e = .returned (.int .i64 0) ∧ Below W.heap.size W w') := Lib.hid (fun W => vi_is 7 ((v 0 : Nat) : Int) ((v 1 : Nat) : Int) 0 ((v 2 : Nat) : Int) 0 (Lib.hid (codeI_ok hok)) W)
          have HX2 : Hid (X = ((7, ((v 0 : Nat) : Int), ((v 1 : Nat) : Int), 0, ((v 2 : Nat) : Int)), none)) := Lib.hid (by rw [← hX.out]; show (if okB 7 ((v 0 : Nat) : Int) ((v 1 : Nat) : Int) 0 ((v 2 : Nat) : Int) = true then _ else _) = _; rw [if_pos hok]; rfl)
          clear hok
          go_upto_region 54 with (first | (go_at_call 38; (with_reducible refine (HVI.out _).mono ?_); rintro e w5 ⟨rfl, hb5⟩; have HJ9 := Lib.hid (HJ_3.out.below hb5); have HR9 := Lib.hid (HR_3.out.below hb5); have HB9 := Lib.hid (HB_3.out.trans (hb5.mono HB_3.out.size))))
          clear r0 r1 r2 r3 r4 rf hb5
          have r0 := HJ9.out.c0
          have r1 := HJ9.out.c1
          have r2 := HJ9.out.c2
          have r3 := HJ9.out.c3
          have r4 := HJ9.out.c4
          have q0 := HR9.out.c0
          have q1 := HR9.out.c1
          have q2 := HR9.out.c2
          have q3 := HR9.out.c3
          have q4 := HR9.out.c4
          have qf := HR9.out.fz
          go_wp2_with fail
          have HI := HR9.out.set5 7 ((v 0 : Nat) : Int) ((v 1 : Nat) : Int) 0 ((v 2 : Nat) : Int)
          clear q0 q1 q2 q3 q4
          have q0 := HI.c0; have q1 := HI.c1; have q2 := HI.c2; have q3 := HI.c3; have q4 := HI.c4; refine bodyPost_ret (v := .tuple #[.agg #[.int .i64 7, .int .i64 ((v 0 : Nat) : Int), .int .i64 ((v 1 : Nat) : Int), .int .i64 0, .int .i64 ((v 2 : Nat) : Int)], .int .i64 0]) (by simp [results, Tryz.results40, go_sem, q0, q1, q2, q3, q4]) rfl ⟨(by rw [HX2.out]; rfl), (bel5 HB9.out HRR.out)⟩
        · have HVI : Hid (∀ W, Calls Tryz.prog 38 #[.agg #[.int .i64 7, .int .i64 ((v 0 : Nat) : Int), .int .i64 ((v 1 : Nat) : Int), .int .i64 0, .int .i64 ((v 2 : Nat) : Int)]] W fun e w' => e = .returned (.int .i64 103) ∧ Below W.heap.size W w') := Lib.hid (fun W => vi_is 7 ((v 0 : Nat) : Int) ((v 1 : Nat) : Int) 0 ((v 2 : Nat) : Int) 103 (Lib.hid (codeI_no (by simpa using hok) (by decide))) W)
          have HX2 : Hid (X = ((0, 0, 0, 0, 0), some 2)) := Lib.hid (by rw [← hX.out]; show (if okB 7 ((v 0 : Nat) : Int) ((v 1 : Nat) : Int) 0 ((v 2 : Nat) : Int) = true then _ else _) = _; rw [if_neg hok])
          clear hok
          go_upto_region 54 with (first | (go_at_call 38; (with_reducible refine (HVI.out _).mono ?_); rintro e w5 ⟨rfl, hb5⟩; have HJ9 := Lib.hid (HJ_3.out.below hb5); have HR9 := Lib.hid (HR_3.out.below hb5); have HB9 := Lib.hid (HB_3.out.trans (hb5.mono HB_3.out.size))))
          clear r0 r1 r2 r3 r4 rf hb5
          have r0 := HJ9.out.c0
          have r1 := HJ9.out.c1
          have r2 := HJ9.out.c2
          have r3 := HJ9.out.c3
          have r4 := HJ9.out.c4
          have q0 := HR9.out.c0
          have q1 := HR9.out.c1
          have q2 := HR9.out.c2
          have q3 := HR9.out.c3
          have q4 := HR9.out.c4
          have qf := HR9.out.fz
          go_wp2_with fail
          have HI := HR9.out.set5 0 0 0 0 0
          clear q0 q1 q2 q3 q4
          have q0 := HI.c0; have q1 := HI.c1; have q2 := HI.c2; have q3 := HI.c3; have q4 := HI.c4; refine bodyPost_ret (v := .tuple #[.agg #[.int .i64 0, .int .i64 0, .int .i64 0, .int .i64 0, .int .i64 0], .int .i64 103]) (by simp [results, Tryz.results40, go_sem, q0, q1, q2, q3, q4]) rfl ⟨(by rw [HX2.out]; rfl), (bel5 HB9.out HRR.out)⟩
      · clear y1 y13 y3 y11 e0 e3 e11 ho h0 h13
        obtain rfl : k = 2 := by rw [← HLL.out]; rfl
        rw [show ((8 : Nat) : Int) = 8 from rfl]
        obtain ⟨g2, hg2⟩ := own_some hrow (by decide)
        subst hg2
        have hJg : Hid (g2 ≠ J) := Lib.hid (fun e => by have h1 := (hrow.lt g2 rfl).1; have h2 := HB0'.out.2; have h3 := HJ3.out.lt; omega)
        have c0 : wr.cell? ⟨g2, 0, none⟩ = some (.int .i64 ((v 0 : Nat) : Int)) := hrow.cellAt 0 (by decide)
        have c1 : wr.cell? ⟨g2, 1, none⟩ = some (.int .i64 ((v 1 : Nat) : Int)) := hrow.cellAt 1 (by decide)
        have HJ_0 : Hid (I5 wr J 8 0 0 0 0) := Lib.hid (HJ3.out.below HBr.out)
        have HR_0 := Lib.hid (HR3.out.below HBr.out)
        have HB_0 := Lib.hid (HBW.out.trans (HBr.out.mono HBW.out.size))
        have r0 := HJ_0.out.c0
        have r1 := HJ_0.out.c1
        have r2 := HJ_0.out.c2
        have r3 := HJ_0.out.c3
        have r4 := HJ_0.out.c4
        have rf := HJ_0.out.fz
        clear hrow
        go_upto_region 48 with fail
        generalize hA : World.setCell wr _ _ = wA0
        have HJ_1 : Hid (I5 wA0 J 8 ((v 0 : Nat) : Int) 0 0 0) := Lib.hid (by rw [← hA]; exact HJ_0.out.put.2.1 _)
        have HR_1 := Lib.hid (HR_0.out.far HRJ.out.1 (i := 1) (v := .int .i64 ((v 0 : Nat) : Int)))
        have HB_1 : Hid (Below w.heap.size w wA0) := Lib.hid (by rw [← hA]; exact HB_0.out.setCell HRJ.out.2 _)
        rw [hA] at HR_1
        replace c0 : wA0.cell? ⟨g2, 0, none⟩ = some (.int .i64 ((v 0 : Nat) : Int)) := by rw [← hA]; exact (sc_far hJg.out).trans c0
        replace c1 : wA0.cell? ⟨g2, 1, none⟩ = some (.int .i64 ((v 1 : Nat) : Int)) := by rw [← hA]; exact (sc_far hJg.out).trans c1
        clear r0 r1 r2 r3 r4 rf hA
        have r0 := HJ_1.out.c0
        have r1 := HJ_1.out.c1
        have r2 := HJ_1.out.c2
        have r3 := HJ_1.out.c3
        have r4 := HJ_1.out.c4
        have rf := HJ_1.out.fz
        go_upto_region 53 with fail
        generalize hA : World.setCell wA0 _ _ = wA1
        have HJ_2 : Hid (I5 wA1 J 8 ((v 0 : Nat) : Int) ((v 1 : Nat) : Int) 0 0) := Lib.hid (by rw [← hA]; exact HJ_1.out.put.2.2.1 _)
        have HR_2 := Lib.hid (HR_1.out.far HRJ.out.1 (i := 2) (v := .int .i64 ((v 1 : Nat) : Int)))
        have HB_2 : Hid (Below w.heap.size w wA1) := Lib.hid (by rw [← hA]; exact HB_1.out.setCell HRJ.out.2 _)
        rw [hA] at HR_2
        replace c0 : wA1.cell? ⟨g2, 0, none⟩ = some (.int .i64 ((v 0 : Nat) : Int)) := by rw [← hA]; exact (sc_far hJg.out).trans c0
        replace c1 : wA1.cell? ⟨g2, 1, none⟩ = some (.int .i64 ((v 1 : Nat) : Int)) := by rw [← hA]; exact (sc_far hJg.out).trans c1
        clear r0 r1 r2 r3 r4 rf hA
        have r0 := HJ_2.out.c0
        have r1 := HJ_2.out.c1
        have r2 := HJ_2.out.c2
        have r3 := HJ_2.out.c3
        have r4 := HJ_2.out.c4
        have rf := HJ_2.out.fz
        clear c0 c1
        by_cases hok : okB 8 ((v 0 : Nat) : Int) ((v 1 : Nat) : Int) 0 0 = true
        · have HVI : Hid (∀ W, Calls Tryz.prog 38 #[.agg #[.int .i64 8, .int .i64 ((v 0 : Nat) : Int), .int .i64 ((v 1 : Nat) : Int), .int .i64 0, .int .i64 0]] W fun e w' => e = .returned (.int .i64 0) ∧ Below W.heap.size W w') := Lib.hid (fun W => vi_is 8 ((v 0 : Nat) : Int) ((v 1 : Nat) : Int) 0 0 0 (Lib.hid (codeI_ok hok)) W)
          have HX2 : Hid (X = ((8, ((v 0 : Nat) : Int), ((v 1 : Nat) : Int), 0, 0), none)) := Lib.hid (by rw [← hX.out]; show (if okB 8 ((v 0 : Nat) : Int) ((v 1 : Nat) : Int) 0 0 = true then _ else _) = _; rw [if_pos hok]; rfl)
          clear hok
          go_upto_region 54 with (first | (go_at_call 38; (with_reducible refine (HVI.out _).mono ?_); rintro e w5 ⟨rfl, hb5⟩; have HJ9 := Lib.hid (HJ_2.out.below hb5); have HR9 := Lib.hid (HR_2.out.below hb5); have HB9 := Lib.hid (HB_2.out.trans (hb5.mono HB_2.out.size))))
          clear r0 r1 r2 r3 r4 rf hb5
          have r0 := HJ9.out.c0
          have r1 := HJ9.out.c1
          have r2 := HJ9.out.c2
          have r3 := HJ9.out.c3
          have r4 := HJ9.out.c4
          have q0 := HR9.out.c0
          have q1 := HR9.out.c1
          have q2 := HR9.out.c2
          have q3 := HR9.out.c3
          have q4 := HR9.out.c4
          have qf := HR9.out.fz
          go_wp2_with fail
          have HI := HR9.out.set5 8 ((v 0 : Nat) : Int) ((v 1 : Nat) : Int) 0 0
          clear q0 q1 q2 q3 q4
          have q0 := HI.c0; have q1 := HI.c1; have q2 := HI.c2; have q3 := HI.c3; have q4 := HI.c4; refine bodyPost_ret (v := .tuple #[.agg #[.int .i64 8, .int .i64 ((v 0 : Nat) : Int), .int .i64 ((v 1 : Nat) : Int), .int .i64 0, .int .i64 0], .int .i64 0]) (by simp [results, Tryz.results40, go_sem, q0, q1, q2, q3, q4]) rfl ⟨(by rw [HX2.out]; rfl), (bel5 HB9.out HRR.out)⟩
        · have HVI : Hid (∀ W, Calls Tryz.prog 38 #[.agg #[.int .i64 8, .int .i64 ((v 0 : Nat) : Int), .int .i64 ((v 1 : Nat) : Int), .int .i64 0, .int .i64 0]] W fun e w' => e = .returned (.int .i64 103) ∧ Below W.heap.size W w') := Lib.hid (fun W => vi_is 8 ((v 0 : Nat) : Int) ((v 1 : Nat) : Int) 0 0 103 (Lib.hid (codeI_no (by simpa using hok) (by decide))) W)
          have HX2 : Hid (X = ((0, 0, 0, 0, 0), some 2)) := Lib.hid (by rw [← hX.out]; show (if okB 8 ((v 0 : Nat) : Int) ((v 1 : Nat) : Int) 0 0 = true then _ else _) = _; rw [if_neg hok])
          clear hok
          go_upto_region 54 with (first | (go_at_call 38; (with_reducible refine (HVI.out _).mono ?_); rintro e w5 ⟨rfl, hb5⟩; have HJ9 := Lib.hid (HJ_2.out.below hb5); have HR9 := Lib.hid (HR_2.out.below hb5); have HB9 := Lib.hid (HB_2.out.trans (hb5.mono HB_2.out.size))))
          clear r0 r1 r2 r3 r4 rf hb5
          have r0 := HJ9.out.c0
          have r1 := HJ9.out.c1
          have r2 := HJ9.out.c2
          have r3 := HJ9.out.c3
          have r4 := HJ9.out.c4
          have q0 := HR9.out.c0
          have q1 := HR9.out.c1
          have q2 := HR9.out.c2
          have q3 := HR9.out.c3
          have q4 := HR9.out.c4
          have qf := HR9.out.fz
          go_wp2_with fail
          have HI := HR9.out.set5 0 0 0 0 0
          clear q0 q1 q2 q3 q4
          have q0 := HI.c0; have q1 := HI.c1; have q2 := HI.c2; have q3 := HI.c3; have q4 := HI.c4; refine bodyPost_ret (v := .tuple #[.agg #[.int .i64 0, .int .i64 0, .int .i64 0, .int .i64 0, .int .i64 0], .int .i64 103]) (by simp [results, Tryz.results40, go_sem, q0, q1, q2, q3, q4]) rfl ⟨(by rw [HX2.out]; rfl), (bel5 HB9.out HRR.out)⟩
      · clear y1 y13 y3 y11 e0 e3 e11 ho h0 h13
        obtain rfl : k = 2 := by rw [← HLL.out]; rfl
        rw [show ((9 : Nat) : Int) = 9 from rfl]
        obtain ⟨g2, hg2⟩ := own_some hrow (by decide)
        subst hg2
        have hJg : Hid (g2 ≠ J) := Lib.hid (fun e => by have h1 := (hrow.lt g2 rfl).1; have h2 := HB0'.out.2; have h3 := HJ3.out.lt; omega)
        have c0 : wr.cell? ⟨g2, 0, none⟩ = some (.int .i64 ((v 0 : Nat) : Int)) := hrow.cellAt 0 (by decide)
        have c1 : wr.cell? ⟨g2, 1, none⟩ = some (.int .i64 ((v 1 : Nat) : Int)) := hrow.cellAt 1 (by decide)
        have HJ_0 : Hid (I5 wr J 9 0 0 0 0) := Lib.hid (HJ3.out.below HBr.out)
        have HR_0 := Lib.hid (HR3.out.below HBr.out)
        have HB_0 := Lib.hid (HBW.out.trans (HBr.out.mono HBW.out.size))
        have r0 := HJ_0.out.c0
        have r1 := HJ_0.out.c1
        have r2 := HJ_0.out.c2
        have r3 := HJ_0.out.c3
        have r4 := HJ_0.out.c4
        have rf := HJ_0.out.fz
        clear hrow
        go_upto_region 48 with fail
        generalize hA : World.setCell wr _ _ = wA0
        have HJ_1 : Hid (I5 wA0 J 9 ((v 0 : Nat) : Int) 0 0 0) := Lib.hid (by rw [← hA]; exact HJ_0.out.put.2.1 _)
        have HR_1 := Lib.hid (HR_0.out.far HRJ.out.1 (i := 1) (v := .int .i64 ((v 0 : Nat) : Int)))
        have HB_1 : Hid (Below w.heap.size w wA0) := Lib.hid (by rw [← hA]; exact HB_0.out.setCell HRJ.out.2 _)
        rw [hA] at HR_1
        replace c0 : wA0.cell? ⟨g2, 0, none⟩ = some (.int .i64 ((v 0 : Nat) : Int)) := by rw [← hA]; exact (sc_far hJg.out).trans c0
        replace c1 : wA0.cell? ⟨g2, 1, none⟩ = some (.int .i64 ((v 1 : Nat) : Int)) := by rw [← hA]; exact (sc_far hJg.out).trans c1
        clear r0 r1 r2 r3 r4 rf hA
        have r0 := HJ_1.out.c0
        have r1 := HJ_1.out.c1
        have r2 := HJ_1.out.c2
        have r3 := HJ_1.out.c3
        have r4 := HJ_1.out.c4
        have rf := HJ_1.out.fz
        go_upto_region 53 with fail
        generalize hA : World.setCell wA0 _ _ = wA1
        have HJ_2 : Hid (I5 wA1 J 9 ((v 0 : Nat) : Int) ((v 1 : Nat) : Int) 0 0) := Lib.hid (by rw [← hA]; exact HJ_1.out.put.2.2.1 _)
        have HR_2 := Lib.hid (HR_1.out.far HRJ.out.1 (i := 2) (v := .int .i64 ((v 1 : Nat) : Int)))
        have HB_2 : Hid (Below w.heap.size w wA1) := Lib.hid (by rw [← hA]; exact HB_1.out.setCell HRJ.out.2 _)
        rw [hA] at HR_2
        replace c0 : wA1.cell? ⟨g2, 0, none⟩ = some (.int .i64 ((v 0 : Nat) : Int)) := by rw [← hA]; exact (sc_far hJg.out).trans c0
        replace c1 : wA1.cell? ⟨g2, 1, none⟩ = some (.int .i64 ((v 1 : Nat) : Int)) := by rw [← hA]; exact (sc_far hJg.out).trans c1
        clear r0 r1 r2 r3 r4 rf hA
        have r0 := HJ_2.out.c0
        have r1 := HJ_2.out.c1
        have r2 := HJ_2.out.c2
        have r3 := HJ_2.out.c3
        have r4 := HJ_2.out.c4
        have rf := HJ_2.out.fz
        clear c0 c1
        by_cases hok : okB 9 ((v 0 : Nat) : Int) ((v 1 : Nat) : Int) 0 0 = true
        · have HVI : Hid (∀ W, Calls Tryz.prog 38 #[.agg #[.int .i64 9, .int .i64 ((v 0 : Nat) : Int), .int .i64 ((v 1 : Nat) : Int), .int .i64 0, .int .i64 0]] W fun e w' => e = .returned (.int .i64 0) ∧ Below W.heap.size W w') := Lib.hid (fun W => vi_is 9 ((v 0 : Nat) : Int) ((v 1 : Nat) : Int) 0 0 0 (Lib.hid (codeI_ok hok)) W)
          have HX2 : Hid (X = ((9, ((v 0 : Nat) : Int), ((v 1 : Nat) : Int), 0, 0), none)) := Lib.hid (by rw [← hX.out]; show (if okB 9 ((v 0 : Nat) : Int) ((v 1 : Nat) : Int) 0 0 = true then _ else _) = _; rw [if_pos hok]; rfl)
          clear hok
          go_upto_region 54 with (first | (go_at_call 38; (with_reducible refine (HVI.out _).mono ?_); rintro e w5 ⟨rfl, hb5⟩; have HJ9 := Lib.hid (HJ_2.out.below hb5); have HR9 := Lib.hid (HR_2.out.below hb5); have HB9 := Lib.hid (HB_2.out.trans (hb5.mono HB_2.out.size))))
          clear r0 r1 r2 r3 r4 rf hb5
          have r0 := HJ9.out.c0
          have r1 := HJ9.out.c1
          have r2 := HJ9.out.c2
          have r3 := HJ9.out.c3
          have r4 := HJ9.out.c4
          have q0 := HR9.out.c0
          have q1 := HR9.out.c1
          have q2 := HR9.out.c2
          have q3 := HR9.out.c3
          have q4 := HR9.out.c4
          have qf := HR9.out.fz
          go_wp2_with fail
          have HI := HR9.out.set5 9 ((v 0 : Nat) : Int) ((v 1 : Nat) : Int) 0 0
          clear q0 q1 q2 q3 q4
          have q0 := HI.c0; have q1 := HI.c1; have q2 := HI.c2; have q3 := HI.c3; have q4 := HI.c4; refine bodyPost_ret (v := .tuple #[.agg #[.int .i64 9, .int .i64 ((v 0 : Nat) : Int), .int .i64 ((v 1 : Nat) : Int), .int .i64 0, .int .i64 0], .int .i64 0]) (by simp [results, Tryz.results40, go_sem, q0, q1, q2, q3, q4]) rfl ⟨(by rw [HX2.out]; rfl), (bel5 HB9.out HRR.out)⟩
        · have HVI : Hid (∀ W, Calls Tryz.prog 38 #[.agg #[.int .i64 9, .int .i64 ((v 0 : Nat) : Int), .int .i64 ((v 1 : Nat) : Int), .int .i64 0, .int .i64 0]] W fun e w' => e = .returned (.int .i64 103) ∧ Below W.heap.size W w') := Lib.hid (fun W => vi_is 9 ((v 0 : Nat) : Int) ((v 1 : Nat) : Int) 0 0 103 (Lib.hid (codeI_no (by simpa using hok) (by decide))) W)
          have HX2 : Hid (X = ((0, 0, 0, 0, 0), some 2)) := Lib.hid (by rw [← hX.out]; show (if okB 9 ((v 0 : Nat) : Int) ((v 1 : Nat) : Int) 0 0 = true then _ else _) = _; rw [if_neg hok])
          clear hok
          go_upto_region 54 with (first | (go_at_call 38; (with_reducible refine (HVI.out _).mono ?_); rintro e w5 ⟨rfl, hb5⟩; have HJ9 := Lib.hid (HJ_2.out.below hb5); have HR9 := Lib.hid (HR_2.out.below hb5); have HB9 := Lib.hid (HB_2.out.trans (hb5.mono HB_2.out.size))))
          clear r0 r1 r2 r3 r4 rf hb5
          have r0 := HJ9.out.c0
          have r1 := HJ9.out.c1
          have r2 := HJ9.out.c2
          have r3 := HJ9.out.c3
          have r4 := HJ9.out.c4
          have q0 := HR9.out.c0
          have q1 := HR9.out.c1
          have q2 := HR9.out.c2
          have q3 := HR9.out.c3
          have q4 := HR9.out.c4
          have qf := HR9.out.fz
          go_wp2_with fail
          have HI := HR9.out.set5 0 0 0 0 0
          clear q0 q1 q2 q3 q4
          have q0 := HI.c0; have q1 := HI.c1; have q2 := HI.c2; have q3 := HI.c3; have q4 := HI.c4; refine bodyPost_ret (v := .tuple #[.agg #[.int .i64 0, .int .i64 0, .int .i64 0, .int .i64 0, .int .i64 0], .int .i64 103]) (by simp [results, Tryz.results40, go_sem, q0, q1, q2, q3, q4]) rfl ⟨(by rw [HX2.out]; rfl), (bel5 HB9.out HRR.out)⟩
      · clear y1 y13 y3 y11 e0 e3 e11 ho h0 h13
        obtain rfl : k = 2 := by rw [← HLL.out]; rfl
        rw [show ((10 : Nat) : Int) = 10 from rfl]
        obtain ⟨g2, hg2⟩ := own_some hrow (by decide)
        subst hg2
        have hJg : Hid (g2 ≠ J) := Lib.hid (fun e => by have h1 := (hrow.lt g2 rfl).1; have h2 := HB0'.out.2; have h3 := HJ3.out.lt; omega)
        have c0 : wr.cell? ⟨g2, 0, none⟩ = some (.int .i64 ((v 0 : Nat) : Int)) := hrow.cellAt 0 (by decide)
        have c1 : wr.cell? ⟨g2, 1, none⟩ = some (.int .i64 ((v 1 : Nat) : Int)) := hrow.cellAt 1 (by decide)
        have HJ_0 : Hid (I5 wr J 10 0 0 0 0) := Lib.hid (HJ3.out.below HBr.out)
        have HR_0 := Lib.hid (HR3.out.below HBr.out)
        have HB_0 := Lib.hid (HBW.out.trans (HBr.out.mono HBW.out.size))
        have r0 := HJ_0.out.c0
        have r1 := HJ_0.out.c1
        have r2 := HJ_0.out.c2
        have r3 := HJ_0.out.c3
        have r4 := HJ_0.out.c4
        have rf := HJ_0.out.fz
        clear hrow
        go_upto_region 48 with fail
        generalize hA : World.setCell wr _ _ = wA0
        have HJ_1 : Hid (I5 wA0 J 10 ((v 0 : Nat) : Int) 0 0 0) := Lib.hid (by rw [← hA]; exact HJ_0.out.put.2.1 _)
        have HR_1 := Lib.hid (HR_0.out.far HRJ.out.1 (i := 1) (v := .int .i64 ((v 0 : Nat) : Int)))
        have HB_1 : Hid (Below w.heap.size w wA0) := Lib.hid (by rw [← hA]; exact HB_0.out.setCell HRJ.out.2 _)
        rw [hA] at HR_1
        replace c0 : wA0.cell? ⟨g2, 0, none⟩ = some (.int .i64 ((v 0 : Nat) : Int)) := by rw [← hA]; exact (sc_far hJg.out).trans c0
        replace c1 : wA0.cell? ⟨g2, 1, none⟩ = some (.int .i64 ((v 1 : Nat) : Int)) := by rw [← hA]; exact (sc_far hJg.out).trans c1
        clear r0 r1 r2 r3 r4 rf hA
        have r0 := HJ_1.out.c0
        have r1 := HJ_1.out.c1
        have r2 := HJ_1.out.c2
        have r3 := HJ_1.out.c3
        have r4 := HJ_1.out.c4
        have rf := HJ_1.out.fz
        go_upto_region 53 with fail
        generalize hA : World.setCell wA0 _ _ = wA1
        have HJ_2 : Hid (I5 wA1 J 10 ((v 0 : Nat) : Int) ((v 1 : Nat) : Int) 0 0) := Lib.hid (by rw [← hA]; exact HJ_1.out.put.2.2.1 _)
        have HR_2 := Lib.hid (HR_1.out.far HRJ.out.1 (i := 2) (v := .int .i64 ((v 1 : Nat) : Int)))
        have HB_2 : Hid (Below w.heap.size w wA1) := Lib.hid (by rw [← hA]; exact HB_1.out.setCell HRJ.out.2 _)
        rw [hA] at HR_2
        replace c0 : wA1.cell? ⟨g2, 0, none⟩ = some (.int .i64 ((v 0 : Nat) : Int)) := by rw [← hA]; exact (sc_far hJg.out).trans c0
        replace c1 : wA1.cell? ⟨g2, 1, none⟩ = some (.int .i64 ((v 1 : Nat) : Int)) := by rw [← hA]; exact (sc_far hJg.out).trans c1
        clear r0 r1 r2 r3 r4 rf hA
        have r0 := HJ_2.out.c0
        have r1 := HJ_2.out.c1
        have r2 := HJ_2.out.c2
        have r3 := HJ_2.out.c3
        have r4 := HJ_2.out.c4
        have rf := HJ_2.out.fz
        clear c0 c1
        by_cases hok : okB 10 ((v 0 : Nat) : Int) ((v 1 : Nat) : Int) 0 0 = true
        · have HVI : Hid (∀ W, Calls Tryz.prog 38 #[.agg #[.int .i64 10, .int .i64 ((v 0 : Nat) : Int), .int .i64 ((v 1 : Nat) : Int), .int .i64 0, .int .i64 0]] W fun e w' => e = .returned (.int .i64 0) ∧ Below W.heap.size W w') := Lib.hid (fun W => vi_is 10 ((v 0 : Nat) : Int) ((v 1 : Nat) : Int) 0 0 0 (Lib.hid (codeI_ok hok)) W)
          have HX2 : Hid (X = ((10, ((v 0 : Nat) : Int), ((v 1 : Nat) : Int), 0, 0), none)) := Lib.hid (by rw [← hX.out]; show (if okB 10 ((v 0 : Nat) : Int) ((v 1 : Nat) : Int) 0 0 = true then _ else _) = _; rw [if_pos hok]; rfl)
          clear hok
          go_upto_region 54 with (first | (go_at_call 38; (with_reducible refine (HVI.out _).mono ?_); rintro e w5 ⟨rfl, hb5⟩; have HJ9 := Lib.hid (HJ_2.out.below hb5); have HR9 := Lib.hid (HR_2.out.below hb5); have HB9 := Lib.hid (HB_2.out.trans (hb5.mono HB_2.out.size))))
          clear r0 r1 r2 r3 r4 rf hb5
          have r0 := HJ9.out.c0
          have r1 := HJ9.out.c1
          have r2 := HJ9.out.c2
          have r3 := HJ9.out.c3
          have r4 := HJ9.out.c4
          have q0 := HR9.out.c0
          have q1 := HR9.out.c1
          have q2 := HR9.out.c2
          have q3 := HR9.out.c3
          have q4 := HR9.out.c4
          have qf := HR9.out.fz
          go_wp2_with fail
          have HI := HR9.out.set5 10 ((v 0 : Nat) : Int) ((v 1 : Nat) : Int) 0 0
          clear q0 q1 q2 q3 q4
          have q0 := HI.c0; have q1 := HI.c1; have q2 := HI.c2; have q3 := HI.c3; have q4 := HI.c4; refine bodyPost_ret (v := .tuple #[.agg #[.int .i64 10, .int .i64 ((v 0 : Nat) : Int), .int .i64 ((v 1 : Nat) : Int), .int .i64 0, .int .i64 0], .int .i64 0]) (by simp [results, Tryz.results40, go_sem, q0, q1, q2, q3, q4]) rfl ⟨(by rw [HX2.out]; rfl), (bel5 HB9.out HRR.out)⟩
        · have HVI : Hid (∀ W, Calls Tryz.prog 38 #[.agg #[.int .i64 10, .int .i64 ((v 0 : Nat) : Int), .int .i64 ((v 1 : Nat) : Int), .int .i64 0, .int .i64 0]] W fun e w' => e = .returned (.int .i64 103) ∧ Below W.heap.size W w') := Lib.hid (fun W => vi_is 10 ((v 0 : Nat) : Int) ((v 1 : Nat) : Int) 0 0 103 (Lib.hid (codeI_no (by simpa using hok) (by decide))) W)
          have HX2 : Hid (X = ((0, 0, 0, 0, 0), some 2)) := Lib.hid (by rw [← hX.out]; show (if okB 10 ((v 0 : Nat) : Int) ((v 1 : Nat) : Int) 0 0 = true then _ else _) = _; rw [if_neg hok])
          clear hok
          go_upto_region 54 with (first | (go_at_call 38; (with_reducible refine (HVI.out _).mono ?_); rintro e w5 ⟨rfl, hb5⟩; have HJ9 := Lib.hid (HJ_2.out.below hb5); have HR9 := Lib.hid (HR_2.out.below hb5); have HB9 := Lib.hid (HB_2.out.trans (hb5.mono HB_2.out.size))))
          clear r0 r1 r2 r3 r4 rf hb5
          have r0 := HJ9.out.c0
          have r1 := HJ9.out.c1
          have r2 := HJ9.out.c2
          have r3 := HJ9.out.c3
          have r4 := HJ9.out.c4
          have q0 := HR9.out.c0
          have q1 := HR9.out.c1
          have q2 := HR9.out.c2
          have q3 := HR9.out.c3
          have q4 := HR9.out.c4
          have qf := HR9.out.fz
          go_wp2_with fail
          have HI := HR9.out.set5 0 0 0 0 0
          clear q0 q1 q2 q3 q4
          have q0 := HI.c0; have q1 := HI.c1; have q2 := HI.c2; have q3 := HI.c3; have q4 := HI.c4; refine bodyPost_ret (v := .tuple #[.agg #[.int .i64 0, .int .i64 0, .int .i64 0, .int .i64 0, .int .i64 0], .int .i64 103]) (by simp [results, Tryz.results40, go_sem, q0, q1, q2, q3, q4]) rfl ⟨(by rw [HX2.out]; rfl), (bel5 HB9.out HRR.out)⟩
      · clear y1 y13 y3 y11 e0 e3 e11 ho h0 h13
        obtain rfl : k = 0 := by rw [← HLL.out]; rfl
        rw [show ((12 : Nat) : Int) = 12 from rfl]
        have HJ_0 : Hid (I5 wr J 12 0 0 0 0) := Lib.hid (HJ3.out.below HBr.out)
        have HR_0 := Lib.hid (HR3.out.below HBr.out)
        have HB_0 := Lib.hid (HBW.out.trans (HBr.out.mono HBW.out.size))
        have r0 := HJ_0.out.c0
        have r1 := HJ_0.out.c1
        have r2 := HJ_0.out.c2
        have r3 := HJ_0.out.c3
        have r4 := HJ_0.out.c4
        have rf := HJ_0.out.fz
        clear hrow
        by_cases hok : okB 12 0 0 0 0 = true
        · have HVI : Hid (∀ W, Calls Tryz.prog 38 #[.agg #[.int .i64 12, .int .i64 0, .int .i64 0, .int .i64 0, .int .i64 0]] W fun e w' => e = .returned (.int .i64 0) ∧ Below W.heap.size W w') := Lib.hid (fun W => vi_is 12 0 0 0 0 0 (Lib.hid (codeI_ok hok)) W)
          have HX2 : Hid (X = ((12, 0, 0, 0, 0), none)) := Lib.hid (by rw [← hX.out]; show (if okB 12 0 0 0 0 = true then _ else _) = _; rw [if_pos hok]; rfl)
          clear hok
          go_upto_region 54 with (first | (go_at_call 38; (with_reducible refine (HVI.out _).mono ?_); rintro e w5 ⟨rfl, hb5⟩; have HJ9 := Lib.hid (HJ_0.out.below hb5); have HR9 := Lib.hid (HR_0.out.below hb5); have HB9 := Lib.hid (HB_0.out.trans (hb5.mono HB_0.out.size))))
          clear r0 r1 r2 r3 r4 rf hb5
          have r0 := HJ9.out.c0
          have r1 := HJ9.out.c1
          have r2 := HJ9.out.c2
          have r3 := HJ9.out.c3
          have r4 := HJ9.out.c4
          have q0 := HR9.out.c0
          have q1 := HR9.out.c1
          have q2 := HR9.out.c2
          have q3 := HR9.out.c3
          have q4 := HR9.out.c4
          have qf := HR9.out.fz
          go_wp2_with fail
          have HI := HR9.out.set5 12 0 0 0 0
          clear q0 q1 q2 q3 q4
          have q0 := HI.c0; have q1 := HI.c1; have q2 := HI.c2; have q3 := HI.c3; have q4 := HI.c4; refine bodyPost_ret (v := .tuple #[.agg #[.int .i64 12, .int .i64 0, .int .i64 0, .int .i64 0, .int .i64 0], .int .i64 0]) (by simp [results, Tryz.results40, go_sem, q0, q1, q2, q3, q4]) rfl ⟨(by rw [HX2.out]; rfl), (bel5 HB9.out HRR.out)⟩
        · have HVI : Hid (∀ W, Calls Tryz.prog 38 #[.agg #[.int .i64 12, .int .i64 0, .int .i64 0, .int .i64 0, .int .i64 0]] W fun e w' => e = .returned (.int .i64 103) ∧ Below W.heap.size W w') := Lib.hid (fun W => vi_is 12 0 0 0 0 103 (Lib.hid (codeI_no (by simpa using hok) (by decide))) W)
          have HX2 : Hid (X = ((0, 0, 0, 0, 0), some 2)) := Lib.hid (by rw [← hX.out]; show (if okB 12 0 0 0 0 = true then _ else _) = _; rw [if_neg hok])
          clear hok
          go_upto_region 54 with (first | (go_at_call 38; (with_reducible refine (HVI.out _).mono ?_); rintro e w5 ⟨rfl, hb5⟩; have HJ9 := Lib.hid (HJ_0.out.below hb5); have HR9 := Lib.hid (HR_0.out.below hb5); have HB9 := Lib.hid (HB_0.out.trans (hb5.mono HB_0.out.size))))
          clear r0 r1 r2 r3 r4 rf hb5
          have r0 := HJ9.out.c0
          have r1 := HJ9.out.c1
          have r2 := HJ9.out.c2
          have r3 := HJ9.out.c3
          have r4 := HJ9.out.c4
          have q0 := HR9.out.c0
          have q1 := HR9.out.c1
          have q2 := HR9.out.c2
          have q3 := HR9.out.c3
          have q4 := HR9.out.c4
          have qf := HR9.out.fz
          go_wp2_with fail
          have HI := HR9.out.set5 0 0 0 0 0
          clear q0 q1 q2 q3 q4
          have q0 := HI.c0; have q1 := HI.c1; have q2 := HI.c2; have q3 := HI.c3; have q4 := HI.c4; refine bodyPost_ret (v := .tuple #[.agg #[.int .i64 0, .int .i64 0, .int .i64 0, .int .i64 0, .int .i64 0], .int .i64 103]) (by simp [results, Tryz.results40, go_sem, q0, q1, q2, q3, q4]) rfl ⟨(by rw [HX2.out]; rfl), (bel5 HB9.out HRR.out)⟩
      · clear y1 y13 y3 y11 e0 e3 e11 ho h0 h13
        obtain rfl : k = 0 := by rw [← HLL.out]; rfl
        rw [show ((13 : Nat) : Int) = 13 from rfl]
        have HJ_0 : Hid (I5 wr J 13 0 0 0 0) := Lib.hid (HJ3.out.below HBr.out)
        have HR_0 := Lib.hid (HR3.out.below HBr.out)
        have HB_0 := Lib.hid (HBW.out.trans (HBr.out.mono HBW.out.size))
        have r0 := HJ_0.out.c0
        have r1 := HJ_0.out.c1
        have r2 := HJ_0.out.c2
        have r3 := HJ_0.out.c3
        have r4 := HJ_0.out.c4
        have rf := HJ_0.out.fz
        clear hrow
        by_cases hok : okB 13 0 0 0 0 = true
        · have HVI : Hid (∀ W, Calls Tryz.prog 38 #[.agg #[.int .i64 13, .int .i64 0, .int .i64 0, .int .i64 0, .int .i64 0]] W fun e w' => e = .returned (.int .i64 0) ∧ Below W.heap.size W w') := Lib.hid (fun W => vi_is 13 0 0 0 0 0 (Lib.hid (codeI_ok hok)) W)
          have HX2 : Hid (X = ((13, 0, 0, 0, 0), none)) := Lib.hid (by rw [← hX.out]; show (if okB 13 0 0 0 0 = true then _ else _) = _; rw [if_pos hok]; rfl)
          clear hok
          go_upto_region 54 with (first | (go_at_call 38; (with_reducible refine (HVI.out _).mono ?_); rintro e w5 ⟨rfl, hb5⟩; have HJ9 := Lib.hid (HJ_0.out.below hb5); have HR9 := Lib.hid (HR_0.out.below hb5); have HB9 := Lib.hid (HB_0.out.trans (hb5.mono HB_0.out.size))))
          clear r0 r1 r2 r3 r4 rf hb5
          have r0 := HJ9.out.c0
          have r1 := HJ9.out.c1
          have r2 := HJ9.out.c2
          have r3 := HJ9.out.c3
          have r4 := HJ9.out.c4
          have q0 := HR9.out.c0
          have q1 := HR9.out.c1
          have q2 := HR9.out.c2
          have q3 := HR9.out.c3
          have q4 := HR9.out.c4
          have qf := HR9.out.fz
          go_wp2_with fail
          have HI := HR9.out.set5 13 0 0 0 0
          clear q0 q1 q2 q3 q4
          have q0 := HI.c0; have q1 := HI.c1; have q2 := HI.c2; have q3 := HI.c3; have q4 := HI.c4; refine bodyPost_ret (v := .tuple #[.agg #[.int .i64 13, .int .i64 0, .int .i64 0, .int .i64 0, .int .i64 0], .int .i64 0]) (by simp [results, Tryz.results40, go_sem, q0, q1, q2, q3, q4]) rfl ⟨(by rw [HX2.out]; rfl), (bel5 HB9.out HRR.out)⟩
        · have HVI : Hid (∀ W, Calls Tryz.prog 38 #[.agg #[.int .i64 13, .int .i64 0, .int .i64 0, .int .i64 0, .int .i64 0]] W fun e w' => e = .returned (.int .i64 103) ∧ Below W.heap.size W w') := Lib.hid (fun W => vi_is 13 0 0 0 0 103 (Lib.hid (codeI_no (by simpa using hok) (by decide))) W)
          have HX2 : Hid (X = ((0, 0, 0, 0, 0), some 2)) := Lib.hid (by rw [← hX.out]; show (if okB 13 0 0 0 0 = true then _ else _) = _; rw [if_neg hok])
          clear hok
          go_upto_region 54 with (first | (go_at_call 38; (with_reducible refine (HVI.out _).mono ?_); rintro e w5 ⟨rfl, hb5⟩; have HJ9 := Lib.hid (HJ_0.out.below hb5); have HR9 := Lib.hid (HR_0.out.below hb5); have HB9 := Lib.hid (HB_0.out.trans (hb5.mono HB_0.out.size))))
          clear r0 r1 r2 r3 r4 rf hb5
          have r0 := HJ9.out.c0
          have r1 := HJ9.out.c1
          have r2 := HJ9.out.c2
          have r3 := HJ9.out.c3
          have r4 := HJ9.out.c4
          have q0 := HR9.out.c0
          have q1 := HR9.out.c1
          have q2 := HR9.out.c2
          have q3 := HR9.out.c3
          have q4 := HR9.out.c4
          have qf := HR9.out.fz
          go_wp2_with fail
          have HI := HR9.out.set5 0 0 0 0 0
          clear q0 q1 q2 q3 q4
          have q0 := HI.c0; have q1 := HI.c1; have q2 := HI.c2; have q3 := HI.c3; have q4 := HI.c4; refine bodyPost_ret (v := .tuple #[.agg #[.int .i64 0, .int .i64 0, .int .i64 0, .int .i64 0, .int .i64 0], .int .i64 103]) (by simp [results, Tryz.results40, go_sem, q0, q1, q2, q3, q4]) rfl ⟨(by rw [HX2.out]; rfl), (bel5 HB9.out HRR.out)⟩
end Go.Proofs.YtaekccgcnlepaaaGreatDoor
