/-
  turnkeyref1.AsmLine: any line whose first word is op 11.
-/
import Derived.Test.YtaekccgcnlepaaaGreatDoorRi
namespace Go.Proofs.YtaekccgcnlepaaaGreatDoor
open Go.ChangeShapes Go.WideShapes Go.ChangeAt Go.RowKit Go.Maps
set_option linter.unusedVariables false
set_option linter.unusedSimpArgs false
set_option maxRecDepth 100000 in
set_option maxHeartbeats 16000000 in
theorem rasm_11 (s : ByteArray) (hs : s.size ≤ 900) (n : Nat) (HN : Hid ((tokB s).length = n)) (hn0 : 0 < n) (hn1 : n ≤ 1000) (hop : Hid (opW (tokB s) = 11)) (X : (Int × Int × Int × Int × Int) × Option Nat) (hX : Hid (lineV s = X)) (w : World) : Calls Tryz.prog 40 #[.string s] w fun e w' => e = .returned (.tuple #[(.agg #[.int .i64 X.1.1, .int .i64 X.1.2.1, .int .i64 X.1.2.2.1, .int .i64 X.1.2.2.2.1, .int .i64 X.1.2.2.2.2]), .int .i64 (codR X.2)]) ∧ Below w.heap.size w w' := by
  have HSp := Lib.hid (rsplit_is s hs (w.alloc (.cells #[.int .i64 0, .int .i64 0, .int .i64 0, .int .i64 0, .int .i64 0] 66)))
  have HB0 : Hid (Below w.heap.size w (w.alloc (.cells #[.int .i64 0, .int .i64 0, .int .i64 0, .int .i64 0, .int .i64 0] 66))) := Lib.hid ((Below.refl _ _).alloc (Nat.le_refl _) _)
  have HR0 := Lib.hid (I5.new w 66 0 0 0 0 0)
  obtain ⟨x0, hx0⟩ : ∃ x0, (tokB s).getD 0 ⟨#[]⟩ = x0 := ⟨_, rfl⟩
  have HC0 : Hid (((tokB s).map Value.string)[0]? = some (.string x0)) := Lib.hid (by
    have hl : 0 < (tokB s).length := by rw [HN.out]; exact hn0
    rw [List.getElem?_map, List.getElem?_eq_getElem hl, ← hx0]
    simp [List.getD, hl])
  have HOp : Hid (opL x0.data.toList = 11) := Lib.hid (by
    rw [← hop.out, ← hx0]
    have hl : 0 < (tokB s).length := by rw [HN.out]; exact hn0
    cases hq : tokB s with
    | nil => rw [hq] at hl; cases hl
    | cons y r => rfl)
  obtain ⟨kB, hkB⟩ : ∃ kB : ByteArray, kB = ⟨(kdL.getD 11 []).toArray⟩ := ⟨_, rfl⟩
  have hsz := kB_size ⟨11, by decide⟩
  simp only at hsz
  rw [← hkB] at hsz
  obtain ⟨hz1, hz2⟩ := hsz
  rw [← hz1] at hz2
  obtain ⟨L, hL⟩ : ∃ L, kB.size = L := ⟨_, rfl⟩
  have HLL : Hid ((kdL.getD 11 []).length = L) := Lib.hid (by rw [← hz1]; exact hL)
  have HKB := Lib.hid hkB
  rw [hL] at hz2
  have n0 : ((n : Int) == 0) = false := by simp; omega
  have n2 : (0 : Int) < (n : Int) := by omega
  have HSh : Hid (∀ W, Calls Tryz.prog 59 #[.string x0] W fun e w' => e = .returned (.tuple #[.string kB, .int .i64 (11 : Int)]) ∧ W = w') := Lib.hid (fun W => by rw [hkB]; exact rshape_is x0 11 HOp W)
  clear hx0 hz1 hkB
  go_enter Tryz.func40, Tryz.ntmps40
  go_upto_region 8 with (first | (go_at_call 15; refine HSp.out.mono ?_; rintro e w1 ⟨ad, n', cp, rfl, hl⟩; obtain rfl : n = n' := (by have := hl.len; rw [HN.out] at this; exact this); obtain ⟨g, hg⟩ := own_some hl.row hn0; subst hg; have c0 := hl.row.cellAt 0 (by omega); have HB1 := Lib.hid (HB0.out.trans (hl.bel.mono HB0.out.size)); have HR1 := Lib.hid (HR0.out.below hl.bel); have HL1 := Lib.hid hl; rw [HC0.out] at c0; clear hl) | (go_at_call 59; (with_reducible refine (HSh.out _).mono ?_); rintro e w2 ⟨rfl, rfl⟩))
  clear c0
  generalize hA : World.alloc w1 _ = w3
  have HB3 : Hid (Below w1.heap.size w1 w3) := Lib.hid (by rw [← hA]; exact (Below.refl _ _).alloc (Nat.le_refl _) _)
  obtain ⟨J, hJ⟩ : ∃ J, J = w1.heap.size := ⟨_, rfl⟩
  have HJ3 : Hid (I5 w3 J (11 : Int) 0 0 0 0) := Lib.hid (by rw [← hA, hJ]; exact I5.new _ _ _ _ _ _ _)
  rw [← hJ]
  obtain ⟨R, hR⟩ : ∃ R, R = w.heap.size := ⟨_, rfl⟩
  have HR3 := Lib.hid (HR1.out.below HB3.out)
  have HBW := Lib.hid (HB1.out.trans (HB3.out.mono HB1.out.size))
  rw [← hR] at HR3 ⊢
  have HRR : Hid (w.heap.size ≤ R) := Lib.hid (by rw [hR]; exact Nat.le_refl _)
  have HRJ : Hid (R ≠ J ∧ w.heap.size ≤ J) := Lib.hid (by have h1 := HR1.out.lt; have h2 := HB1.out.size; rw [hR, hJ]; omega)
  have HL3 := Lib.hid (HL1.out.below HB3.out)
  have HG3 : Hid (g < w3.heap.size) := Lib.hid (HL3.out.row.lt g rfl).2
  clear hR HR1 hJ hA
  obtain ⟨x1, hx1⟩ : ∃ x1, (tokB s).getD 1 ⟨#[]⟩ = x1 := ⟨_, rfl⟩
  have HX1 := Lib.hid hx1
  have HC1 : Hid (1 < n → w3.cell? ⟨g, 1, none⟩ = some (.string x1)) := Lib.hid (fun h1 => by
    have hl : 1 < (tokB s).length := by rw [HN.out]; exact h1
    have := HL3.out.row.cellAt 1 (by omega)
    rw [this, ← hx1]
    simp [List.getD, hl])
  have hHL := Lib.hid hL
  clear hx1 hL
  go_upto_region 12 with fail
  go_loopw [9, 10] (fun sc i wr => ∃ k : Nat, k ≤ 12 ∧ i = .int .i64 k ∧ sc = .int .i64 (secF howS x1 k) ∧ (n = 1 → k = 0) ∧ Below w3.heap.size w3 wr) (fun _ i _ => 12 - (intOf i).toNat)
  case atStart => exact ⟨0, by omega, rfl, rfl, fun _ => rfl, Below.refl _ _⟩
  case round =>
    obtain ⟨k, hk, rfl, rfl, h1k, hbr⟩ := hrel
    have HBr := Lib.hid hbr
    by_cases hn2 : n = 1
    · obtain rfl : k = 0 := h1k hn2
      subst hn2
      have HX2 : Hid (X = ((0, 0, 0, 0, 0), some 10)) := Lib.hid (by rw [← hX.out]; exact line_word s 11 hop.out (.inr (by rw [HN.out]; decide)))
      have HRn := Lib.hid (HR3.out.below hbr)
      have q0 := HRn.out.c0
      have q1 := HRn.out.c1
      have q2 := HRn.out.c2
      have q3 := HRn.out.c3
      have q4 := HRn.out.c4
      have qf := HRn.out.fz
      have hs0 : secF howS x1 0 = -1 := rfl
      clear hbr h1k hk
      rw [hs0]
      clear hs0
      go_wp2_with fail
      have HI := HRn.out.set5 0 0 0 0 0
      clear q0 q1 q2 q3 q4
      have q0 := HI.c0; have q1 := HI.c1; have q2 := HI.c2; have q3 := HI.c3; have q4 := HI.c4; refine bodyPost_ret (v := .tuple #[.agg #[.int .i64 0, .int .i64 0, .int .i64 0, .int .i64 0, .int .i64 0], .int .i64 111]) (by simp [results, Tryz.results40, go_sem, q0, q1, q2, q3, q4]) rfl ⟨(by rw [HX2.out]; rfl), (bel5 (HBW.out.trans (HBr.out.mono HBW.out.size)) HRR.out)⟩
    · have hn3 : 1 < n := by omega
      have b1 : decide ((1 : Int) < (n : Int)) = true := decide_eq_true (by omega)
      by_cases hk12 : k = 12
      · obtain ⟨w4, hw4⟩ : ∃ w4, w4 = wr := ⟨_, rfl⟩
        subst hw4
        have HR4 := Lib.hid (HR3.out.below hbr)
        have HJ4 : Hid (I5 w4 J 11 0 0 0 0) := Lib.hid (HJ3.out.below hbr)
        have HBW4 := Lib.hid (HBW.out.trans (hbr.mono HBW.out.size))
        have HL4 := Lib.hid (HL3.out.below hbr)
        have HG4 : Hid (g < w4.heap.size) := Lib.hid (Nat.lt_of_lt_of_le HG3.out hbr.size)
        obtain ⟨sc, hsc⟩ : ∃ sc, secF howS x1 k = sc := ⟨_, rfl⟩
        have HSC : Hid (secO (idxL mNm x1.data.toList) = sc) := Lib.hid (by rw [← hsc, hk12]; exact (sec_h x1 (by rw [← HX1.out]; exact tok_ne s 1 (by rw [HN.out]; exact hn3))).symm)
        have hd12 : decide ((k : Int) < 12) = false := decide_eq_false (by omega)
        rw [hsc]
        clear hsc hbr h1k hk hk12 HBr HR3 HJ3 HBW HL3 HG3 hn2
        by_cases hsn : sc = -1
        · have HX2 : Hid (X = ((0, 0, 0, 0, 0), some 10)) := Lib.hid (by rw [← hX.out]; exact line_second s 11 hop.out (.inr ⟨rfl, by rw [HX1.out]; have h := HSC.out; cases hq : idxL mNm x1.data.toList with | none => rfl | some y => (rw [hq, hsn] at h; simp [secO] at h)⟩))
          subst hsn
          have q0 := HR4.out.c0
          have q1 := HR4.out.c1
          have q2 := HR4.out.c2
          have q3 := HR4.out.c3
          have q4 := HR4.out.c4
          have qf := HR4.out.fz
          go_wp2_with fail
          have HI := HR4.out.set5 0 0 0 0 0
          clear q0 q1 q2 q3 q4
          have q0 := HI.c0; have q1 := HI.c1; have q2 := HI.c2; have q3 := HI.c3; have q4 := HI.c4; refine bodyPost_ret (v := .tuple #[.agg #[.int .i64 0, .int .i64 0, .int .i64 0, .int .i64 0, .int .i64 0], .int .i64 111]) (by simp [results, Tryz.results40, go_sem, q0, q1, q2, q3, q4]) rfl ⟨(by rw [HX2.out]; rfl), (bel5 HBW4.out HRR.out)⟩
        · obtain ⟨sec, hsec⟩ : ∃ sec : Nat, idxL mNm x1.data.toList = some sec := by
            cases hq : idxL mNm x1.data.toList with
            | none => exact absurd (by have h := HSC.out; rw [hq] at h; exact h.symm) hsn
            | some y => exact ⟨y, rfl⟩
          obtain rfl : sc = (sec : Int) := by rw [← HSC.out, hsec]; rfl
          have hs0 : decide ((sec : Int) < 0) = false := decide_eq_false (by omega)
          have HSc : Hid (secOk 11 (tokB s) sec) := Lib.hid ⟨fun e => (by cases e), fun _ => (by rw [HX1.out]; exact hsec)⟩
          clear hsn hsec
          by_cases hc : n = 2 + L
          · have e1 : ((n : Int) != 2 + (kB.size : Int)) = false := by rw [hHL.out, hc]; simp
            have HNn := Lib.hid hc
            have HHL := hHL
            have e2 : (kB.size : Int) ≤ 3 := by rw [hHL.out]; omega
            have HOd : Hid (∀ (k : Nat) (hk : k < kB.size), opdW 11 (tokB s) k = opdO (kB[k]'hk) ((tokB s).getD (2 + k) ⟨#[]⟩).data.toList) := Lib.hid (fun k hk => by
              unfold opdW
              rw [show atV 11 = 2 from rfl, kb_at kB 11 k HKB.out hk])
            have HCl : Hid (∀ k, k < L → w4.cell? ⟨g, 2 + k, none⟩ = some (.string ((tokB s).getD (2 + k) ⟨#[]⟩))) := Lib.hid (fun k hk => by
              have hl : 2 + k < (tokB s).length := by rw [HN.out, HNn.out]; omega
              have := HL4.out.row.cellAt (2 + k) (by rw [HNn.out]; omega)
              rw [this]
              simp [List.getD, hl])
            obtain ⟨v, hvv⟩ : ∃ v : Nat → Nat, v = fun j => (opdW 11 (tokB s) j).getD 0 := ⟨_, rfl⟩
            have HVv := Lib.hid hvv
            have hL3 : L = 2 := HLL.out.symm
            have hnL : (n : Int) ≤ 6 := by omega
            clear hvv hc
            obtain ⟨i0, hi', hz0, hz1, hz2'⟩ := info_parts infoIntR
            have HI := Lib.hid (⟨hi', hz0, hz1, hz2'⟩ : Tryz.prog.info? 3 = some i0 ∧ i0.zero = some (.int .i64 0) ∧ i0.size = 1 ∧ i0.bytes = 8)
            clear hi' hz0 hz1 hz2'
            go_upto_region 20 with fail
            obtain ⟨b0, hb0⟩ : ∃ b0, b0 = w4.heap.size := ⟨_, rfl⟩
            have HB0' : Hid (b0 ≤ w4.heap.size ∧ w4.heap.size ≤ b0) := Lib.hid (by rw [hb0]; exact ⟨Nat.le_refl _, Nat.le_refl _⟩)
            clear hb0
            go_loopw [11, 12] (fun vl j wr => ∃ (k cp2 : Nat) (ad2 : Option Addr), k ≤ L ∧ j = .int .i64 k ∧ vl = .slice ad2 k cp2 ∧ wr.ownsRow b0 3 1 (.slice ad2 k cp2) k ((List.range k).map (fun i => iv (v i))) ∧ Below w4.heap.size w4 wr ∧ (∀ j, j < k → opdW 11 (tokB s) j = some (v j))) (fun _ j _ => L + 1 - (intOf j).toNat)
            case atStart => exact ⟨0, 0, none, by omega, rfl, rfl, World.ownsRow_nil _ _ _ _, Below.refl _ _, fun j hj => by omega⟩
            case round =>
              obtain ⟨k, cp2, ad2, hk, rfl, rfl, hrow, hbr, hvs⟩ := hrel
              have HVs := Lib.hid hvs
              clear hvs
              have HRow := Lib.hid hrow
              have HBr := Lib.hid hbr
              by_cases hkl : k < L
              · have hkL : k < kB.size := by rw [HHL.out]; omega
                obtain ⟨x, hx⟩ : ∃ x, (tokB s).getD (2 + k) ⟨#[]⟩ = x := ⟨_, rfl⟩
                have hxz : x.size ≤ 1000000 := by rw [← hx]; exact Nat.le_trans (tok_size s (2 + k)) (by omega)
                have hcx := HCl.out k (by omega)
                rw [hx] at hcx
                have hcr := (hbr.cell (p := ⟨g, 2 + k, none⟩) HG4.out).trans hcx
                have HOk := Lib.hid (HOd.out k hkL)
                rw [hx] at HOk
                have HK : Hid (k < kB.size) := Lib.hid hkL
                have HKl : Hid (k < L) := Lib.hid hkl
                have hkn : 2 + k < n := by have := HNn.out; have := HHL.out; omega
                clear hrow hx hcx hkl
                have hk9 : k < 2 := by have h1 := HKl.out; have h2 : 2 = L := HLL.out; omega
                rcases (show k = 0 ∨ k = 1 by omega) with rfl | rfl
                · have a0 : (0 : Int) < (kB.size : Int) := by have := HK.out; omega
                  have an : (2 : Int) < (n : Int) := by omega
                  have ST := Lib.hid (⟨hbr.drew, hcr⟩ : Below w4.heap.size w4 wr.drew ∧ wr.drew.cell? ⟨g, 2, none⟩ = some (.string x))
                  clear hbr hcr
                  cases hq : opdW 11 (tokB s) 0
                  · have HO : Hid (numO (opdO (kB[0]'hkL) x.data.toList) = (0, false)) := Lib.hid (by rw [← HOk.out, hq]; rfl)
                    have hw : IntKind.i64.wrap 2 = 2 := by decide
                    have HX2 : Hid (X = ((0, 0, 0, 0, 0), some 11)) := Lib.hid (by rw [← hX.out]; exact line_bad s 11 (by decide) (by decide) hop.out (by rw [HN.out, HNn.out, HLL.out]; rfl) sec HSc.out v 0 (by decide) HVs.out hq)
                    clear hq hkn
                    go_wp2_with fail
                    go_region_held3 (fun w' => Below w4.heap.size w4 w' ∧ w'.cell? ⟨g, 2, none⟩ = some (.string x)) (first | exact ST.out | exact sgkeep (by assumption) HG4 hb) (first | (go_at_call 37; (with_reducible refine (roperand_is x hxz (kB[0]'hkL) 0 false HO _).mono ?_); rintro e w' ⟨rfl, hb⟩))
                    have hS := Lib.hid (show Below w4.heap.size w4 w' from And.left (by assumption))
                    have HR' := Lib.hid (HR4.out.below hS.out)
                    have q0 := HR'.out.c0
                    have q1 := HR'.out.c1
                    have q2 := HR'.out.c2
                    have q3 := HR'.out.c3
                    have q4 := HR'.out.c4
                    have qf := HR'.out.fz
                    go_wp2_with fail
                    have HI := HR'.out.set5 0 0 0 0 0
                    clear q0 q1 q2 q3 q4
                    have q0 := HI.c0; have q1 := HI.c1; have q2 := HI.c2; have q3 := HI.c3; have q4 := HI.c4; refine bodyPost_ret (v := .tuple #[.agg #[.int .i64 0, .int .i64 0, .int .i64 0, .int .i64 0, .int .i64 0], .int .i64 112]) (by simp [results, Tryz.results40, go_sem, q0, q1, q2, q3, q4]) rfl ⟨(by rw [HX2.out]; rfl), (bel5 (HBW4.out.trans (hS.out.mono HBW4.out.size)) HRR.out)⟩
                  rename_i y
                  obtain rfl : v 0 = y := by rw [HVv.out]; show (opdW 11 (tokB s) _).getD 0 = _; rw [hq]; rfl
                  have HVs2 : Hid (∀ j, j < 1 → opdW 11 (tokB s) j = some (v j)) := Lib.hid (fun j hj => by rcases (show j < 0 ∨ j = 0 by omega) with h | rfl; exact HVs.out j h; exact hq)
                  have HO : Hid (numO (opdO (kB[0]'hkL) x.data.toList) = (((v 0 : Nat) : Int), true)) := Lib.hid (by rw [← HOk.out, hq]; rfl)
                  clear hq
                  have hw : IntKind.i64.wrap 2 = 2 := by decide
                  have HT : Hid ((List.range 0).map (fun i => iv (v i)) ++ [.int .i64 ((v 0 : Nat) : Int)] = (List.range (0 + 1)).map (fun i => iv (v i))) := Lib.hid (by rw [List.range_succ, List.map_append]; rfl)
                  have hki2 : 0 + 1 ≤ L := HKl.out
                  clear hkn
                  go_wp2_with fail
                  go_region_held3 (fun w' => Below w4.heap.size w4 w' ∧ w'.cell? ⟨g, 2, none⟩ = some (.string x)) (first | exact ST.out | exact sgkeep (by assumption) HG4 hb) (first | (go_at_call 37; (with_reducible refine (roperand_is x hxz (kB[0]'hkL) ((v 0 : Nat) : Int) true HO _).mono ?_); rintro e w' ⟨rfl, hb⟩; have HRow2 := Lib.hid (own_keep (own_keep HRow.out ((Below.refl _ _).drew)) hb)))
                  have hS := Lib.hid (show Below w4.heap.size w4 w' from And.left (by assumption))
                  have HSz : Hid (w4.heap.size ≤ w'.heap.size) := Lib.hid hS.out.size
                  have HB00 := Lib.hid (Nat.le_trans HB0'.out.1 HSz.out)
                  go_wp2_with (first | (at_builtin; refine wpList_append_own_at _ rfl _ _ 49 rfl b0 3 i0 (.int .i64 0) 1 8 Tryz.underlying49 HI.out.1 HI.out.2.1 HI.out.2.2.1 HI.out.2.2.2 rfl (by decide) _ 0 _ rfl (HRow2.out.alloc _) ⟨w'.heap.size, 0, none⟩ 1 1 [.int .i64 ((v 0 : Nat) : Int)] rfl rfl (cell_one_new _ _ _) (int_one _) (by unfold maxLen; omega) (by omega) (by have := HB00.out; simp at this ⊢; omega) ?_; intro v2 w5 hrow hg3 hnil hloc))
                  have HW5 := Lib.hid ((hS.out.alloc hS.out.size _).grown hg3 (by have := hS.out.size; simp; omega) (fun g hg => Nat.le_trans HB0'.out.2 (HRow2.out.lt g hg).1))
                  obtain ⟨a3, c3, hv3⟩ := owns_shp hrow
                  subst hv3
                  have hrow2 := hrow
                  rw [HT.out] at hrow2
                  have HR5 := Lib.hid hrow2
                  clear hrow hrow2 hg3 hnil hloc
                  go_roundw
                  case rel => exact ⟨1, c3, a3, hki2, rfl, rfl, HR5.out, HW5.out, HVs2.out⟩
                  case measure => first | (simp [intOf]; done) | (simp [intOf]; omega)
                · have a0 : (1 : Int) < (kB.size : Int) := by have := HK.out; omega
                  have an : (3 : Int) < (n : Int) := by omega
                  have ST := Lib.hid (⟨hbr.drew, hcr⟩ : Below w4.heap.size w4 wr.drew ∧ wr.drew.cell? ⟨g, 3, none⟩ = some (.string x))
                  clear hbr hcr
                  cases hq : opdW 11 (tokB s) 1
                  · have HO : Hid (numO (opdO (kB[1]'hkL) x.data.toList) = (0, false)) := Lib.hid (by rw [← HOk.out, hq]; rfl)
                    have hw : IntKind.i64.wrap 3 = 3 := by decide
                    have HX2 : Hid (X = ((0, 0, 0, 0, 0), some 11)) := Lib.hid (by rw [← hX.out]; exact line_bad s 11 (by decide) (by decide) hop.out (by rw [HN.out, HNn.out, HLL.out]; rfl) sec HSc.out v 1 (by decide) HVs.out hq)
                    clear hq hkn
                    go_wp2_with fail
                    go_region_held3 (fun w' => Below w4.heap.size w4 w' ∧ w'.cell? ⟨g, 3, none⟩ = some (.string x)) (first | exact ST.out | exact sgkeep (by assumption) HG4 hb) (first | (go_at_call 37; (with_reducible refine (roperand_is x hxz (kB[1]'hkL) 0 false HO _).mono ?_); rintro e w' ⟨rfl, hb⟩))
                    have hS := Lib.hid (show Below w4.heap.size w4 w' from And.left (by assumption))
                    have HR' := Lib.hid (HR4.out.below hS.out)
                    have q0 := HR'.out.c0
                    have q1 := HR'.out.c1
                    have q2 := HR'.out.c2
                    have q3 := HR'.out.c3
                    have q4 := HR'.out.c4
                    have qf := HR'.out.fz
                    go_wp2_with fail
                    have HI := HR'.out.set5 0 0 0 0 0
                    clear q0 q1 q2 q3 q4
                    have q0 := HI.c0; have q1 := HI.c1; have q2 := HI.c2; have q3 := HI.c3; have q4 := HI.c4; refine bodyPost_ret (v := .tuple #[.agg #[.int .i64 0, .int .i64 0, .int .i64 0, .int .i64 0, .int .i64 0], .int .i64 112]) (by simp [results, Tryz.results40, go_sem, q0, q1, q2, q3, q4]) rfl ⟨(by rw [HX2.out]; rfl), (bel5 (HBW4.out.trans (hS.out.mono HBW4.out.size)) HRR.out)⟩
                  rename_i y
                  obtain rfl : v 1 = y := by rw [HVv.out]; show (opdW 11 (tokB s) _).getD 0 = _; rw [hq]; rfl
                  have HVs2 : Hid (∀ j, j < 2 → opdW 11 (tokB s) j = some (v j)) := Lib.hid (fun j hj => by rcases (show j < 1 ∨ j = 1 by omega) with h | rfl; exact HVs.out j h; exact hq)
                  have HO : Hid (numO (opdO (kB[1]'hkL) x.data.toList) = (((v 1 : Nat) : Int), true)) := Lib.hid (by rw [← HOk.out, hq]; rfl)
                  clear hq
                  have hw : IntKind.i64.wrap 3 = 3 := by decide
                  have HT : Hid ((List.range 1).map (fun i => iv (v i)) ++ [.int .i64 ((v 1 : Nat) : Int)] = (List.range (1 + 1)).map (fun i => iv (v i))) := Lib.hid (by rw [List.range_succ, List.map_append]; rfl)
                  have hki2 : 1 + 1 ≤ L := HKl.out
                  clear hkn
                  go_wp2_with fail
                  go_region_held3 (fun w' => Below w4.heap.size w4 w' ∧ w'.cell? ⟨g, 3, none⟩ = some (.string x)) (first | exact ST.out | exact sgkeep (by assumption) HG4 hb) (first | (go_at_call 37; (with_reducible refine (roperand_is x hxz (kB[1]'hkL) ((v 1 : Nat) : Int) true HO _).mono ?_); rintro e w' ⟨rfl, hb⟩; have HRow2 := Lib.hid (own_keep (own_keep HRow.out ((Below.refl _ _).drew)) hb)))
                  have hS := Lib.hid (show Below w4.heap.size w4 w' from And.left (by assumption))
                  have HSz : Hid (w4.heap.size ≤ w'.heap.size) := Lib.hid hS.out.size
                  have HB00 := Lib.hid (Nat.le_trans HB0'.out.1 HSz.out)
                  go_wp2_with (first | (at_builtin; refine wpList_append_own_at _ rfl _ _ 49 rfl b0 3 i0 (.int .i64 0) 1 8 Tryz.underlying49 HI.out.1 HI.out.2.1 HI.out.2.2.1 HI.out.2.2.2 rfl (by decide) _ 1 _ rfl (HRow2.out.alloc _) ⟨w'.heap.size, 0, none⟩ 1 1 [.int .i64 ((v 1 : Nat) : Int)] rfl rfl (cell_one_new _ _ _) (int_one _) (by unfold maxLen; omega) (by omega) (by have := HB00.out; simp at this ⊢; omega) ?_; intro v2 w5 hrow hg3 hnil hloc))
                  have HW5 := Lib.hid ((hS.out.alloc hS.out.size _).grown hg3 (by have := hS.out.size; simp; omega) (fun g hg => Nat.le_trans HB0'.out.2 (HRow2.out.lt g hg).1))
                  obtain ⟨a3, c3, hv3⟩ := owns_shp hrow
                  subst hv3
                  have hrow2 := hrow
                  rw [HT.out] at hrow2
                  have HR5 := Lib.hid hrow2
                  clear hrow hrow2 hg3 hnil hloc
                  go_roundw
                  case rel => exact ⟨2, c3, a3, hki2, rfl, rfl, HR5.out, HW5.out, HVs2.out⟩
                  case measure => first | (simp [intOf]; done) | (simp [intOf]; omega)
              · obtain rfl : k = L := by omega
                have hdd : decide (k < kB.size) = false := by rw [HHL.out]; simp
                have hdi : decide ((k : Int) < (kB.size : Int)) = false := by rw [HHL.out]; simp
                clear hbr hkl
                have hXl := Lib.hid ((line_good s 11 (by decide) (by decide) hop.out (by rw [HN.out, HNn.out, HLL.out]; rfl) sec HSc.out v (fun j hj => HVs.out j (by rw [← HLL.out]; exact hj))).symm.trans hX.out)
                clear hX
                have hX := hXl
                obtain rfl : k = 2 := by rw [← HLL.out]; rfl
                have hd8 : decide ((2 : Int) < (kB.size : Int)) = false := hdi
                clear hdi
                obtain ⟨g2, hg2⟩ := own_some hrow (by decide)
                subst hg2
                have hJg : Hid (g2 ≠ J) := Lib.hid (fun e => by have h1 := (hrow.lt g2 rfl).1; have h2 := HB0'.out.2; have h3 := HJ4.out.lt; omega)
                have c0 : wr.cell? ⟨g2, 0, none⟩ = some (.int .i64 ((v 0 : Nat) : Int)) := hrow.cellAt 0 (by decide)
                have c1 : wr.cell? ⟨g2, 1, none⟩ = some (.int .i64 ((v 1 : Nat) : Int)) := hrow.cellAt 1 (by decide)
                have HJ_0 : Hid (I5 wr J 11 0 0 0 0) := Lib.hid (HJ4.out.below HBr.out)
                have HR_0 := Lib.hid (HR4.out.below HBr.out)
                have HB_0 := Lib.hid (HBW4.out.trans (HBr.out.mono HBW4.out.size))
                have r0 := HJ_0.out.c0
                have r1 := HJ_0.out.c1
                have r2 := HJ_0.out.c2
                have r3 := HJ_0.out.c3
                have r4 := HJ_0.out.c4
                have rf := HJ_0.out.fz
                clear hrow
                go_upto_region 51 with fail
                generalize hA : World.setCell wr _ _ = wA0
                have HJ_1 : Hid (I5 wA0 J 11 ((sec : Nat) : Int) 0 0 0) := Lib.hid (by rw [← hA]; exact HJ_0.out.put.2.1 _)
                have HR_1 := Lib.hid (HR_0.out.far HRJ.out.1 (i := 1) (v := .int .i64 ((sec : Nat) : Int)))
                have HB_1 : Hid (Below w.heap.size w wA0) := Lib.hid (by rw [← hA]; exact HB_0.out.setCell HRJ.out.2 _)
                rw [hA] at HR_1
                replace c0 : wA0.cell? ⟨g2, 0, none⟩ = some (.int .i64 ((v 0 : Nat) : Int)) := by rw [← hA]; exact (sc_far hJg.out).trans c0
                replace c1 : wA0.cell? ⟨g2, 1, none⟩ = some (.int .i64 ((v 1 : Nat) : Int)) := by rw [← hA]; exact (sc_far hJg.out).trans c1
                clear r0 r1 r2 r3 r4 rf hA
                have r0 := HJ_1.out.c0
                have r1 := HJ_1.out.c1
                have r2 := HJ_1.out.c2
                have r3 := HJ_1.out.c3
                have r4 := HJ_1.out.c4
                have rf := HJ_1.out.fz
                go_upto_region 52 with fail
                generalize hA : World.setCell wA0 _ _ = wA1
                have HJ_2 : Hid (I5 wA1 J 11 ((sec : Nat) : Int) ((v 0 : Nat) : Int) 0 0) := Lib.hid (by rw [← hA]; exact HJ_1.out.put.2.2.1 _)
                have HR_2 := Lib.hid (HR_1.out.far HRJ.out.1 (i := 2) (v := .int .i64 ((v 0 : Nat) : Int)))
                have HB_2 : Hid (Below w.heap.size w wA1) := Lib.hid (by rw [← hA]; exact HB_1.out.setCell HRJ.out.2 _)
                rw [hA] at HR_2
                replace c0 : wA1.cell? ⟨g2, 0, none⟩ = some (.int .i64 ((v 0 : Nat) : Int)) := by rw [← hA]; exact (sc_far hJg.out).trans c0
                replace c1 : wA1.cell? ⟨g2, 1, none⟩ = some (.int .i64 ((v 1 : Nat) : Int)) := by rw [← hA]; exact (sc_far hJg.out).trans c1
                clear r0 r1 r2 r3 r4 rf hA
                have r0 := HJ_2.out.c0
                have r1 := HJ_2.out.c1
                have r2 := HJ_2.out.c2
                have r3 := HJ_2.out.c3
                have r4 := HJ_2.out.c4
                have rf := HJ_2.out.fz
                go_upto_region 53 with fail
                generalize hA : World.setCell wA1 _ _ = wA2
                have HJ_3 : Hid (I5 wA2 J 11 ((sec : Nat) : Int) ((v 0 : Nat) : Int) ((v 1 : Nat) : Int) 0) := Lib.hid (by rw [← hA]; exact HJ_2.out.put.2.2.2.1 _)
                have HR_3 := Lib.hid (HR_2.out.far HRJ.out.1 (i := 3) (v := .int .i64 ((v 1 : Nat) : Int)))
                have HB_3 : Hid (Below w.heap.size w wA2) := Lib.hid (by rw [← hA]; exact HB_2.out.setCell HRJ.out.2 _)
                rw [hA] at HR_3
                replace c0 : wA2.cell? ⟨g2, 0, none⟩ = some (.int .i64 ((v 0 : Nat) : Int)) := by rw [← hA]; exact (sc_far hJg.out).trans c0
                replace c1 : wA2.cell? ⟨g2, 1, none⟩ = some (.int .i64 ((v 1 : Nat) : Int)) := by rw [← hA]; exact (sc_far hJg.out).trans c1
                clear r0 r1 r2 r3 r4 rf hA
                have r0 := HJ_3.out.c0
                have r1 := HJ_3.out.c1
                have r2 := HJ_3.out.c2
                have r3 := HJ_3.out.c3
                have r4 := HJ_3.out.c4
                have rf := HJ_3.out.fz
                clear c0 c1
                by_cases hok : okB 11 ((sec : Nat) : Int) ((v 0 : Nat) : Int) ((v 1 : Nat) : Int) 0 = true
                · have HVI : Hid (∀ W, Calls Tryz.prog 38 #[.agg #[.int .i64 11, .int .i64 ((sec : Nat) : Int), .int .i64 ((v 0 : Nat) : Int), .int .i64 ((v 1 : Nat) : Int), .int .i64 0]] W fun e w' => e = .returned (.int .i64 0) ∧ Below W.heap.size W w') := Lib.hid (fun W => vi_is 11 ((sec : Nat) : Int) ((v 0 : Nat) : Int) ((v 1 : Nat) : Int) 0 0 (Lib.hid (codeI_ok hok)) W)
                  have HX2 : Hid (X = ((11, ((sec : Nat) : Int), ((v 0 : Nat) : Int), ((v 1 : Nat) : Int), 0), none)) := Lib.hid (by rw [← hX.out]; show (if okB 11 ((sec : Nat) : Int) ((v 0 : Nat) : Int) ((v 1 : Nat) : Int) 0 = true then _ else _) = _; rw [if_pos hok]; rfl)
                  clear hok
                  go_upto_region 54 with (first | (go_at_call 38; (with_reducible refine (HVI.out _).mono ?_); rintro e w5 ⟨rfl, hb5⟩; have HJ9 := Lib.hid (HJ_3.out.below hb5); have HR9 := Lib.hid (HR_3.out.below hb5); have HB9 := Lib.hid (HB_3.out.trans (hb5.mono HB_3.out.size))))
                  clear r0 r1 r2 r3 r4 rf hb5
                  have r0 := HJ9.out.c0
                  have r1 := HJ9.out.c1
                  have r2 := HJ9.out.c2
                  have r3 := HJ9.out.c3
                  have r4 := HJ9.out.c4
                  have q0 := HR9.out.c0
                  have q1 := HR9.out.c1
                  have q2 := HR9.out.c2
                  have q3 := HR9.out.c3
                  have q4 := HR9.out.c4
                  have qf := HR9.out.fz
                  go_wp2_with fail
                  have HI := HR9.out.set5 11 ((sec : Nat) : Int) ((v 0 : Nat) : Int) ((v 1 : Nat) : Int) 0
                  clear q0 q1 q2 q3 q4
                  have q0 := HI.c0; have q1 := HI.c1; have q2 := HI.c2; have q3 := HI.c3; have q4 := HI.c4; refine bodyPost_ret (v := .tuple #[.agg #[.int .i64 11, .int .i64 ((sec : Nat) : Int), .int .i64 ((v 0 : Nat) : Int), .int .i64 ((v 1 : Nat) : Int), .int .i64 0], .int .i64 0]) (by simp [results, Tryz.results40, go_sem, q0, q1, q2, q3, q4]) rfl ⟨(by rw [HX2.out]; rfl), (bel5 HB9.out HRR.out)⟩
                · have HVI : Hid (∀ W, Calls Tryz.prog 38 #[.agg #[.int .i64 11, .int .i64 ((sec : Nat) : Int), .int .i64 ((v 0 : Nat) : Int), .int .i64 ((v 1 : Nat) : Int), .int .i64 0]] W fun e w' => e = .returned (.int .i64 103) ∧ Below W.heap.size W w') := Lib.hid (fun W => vi_is 11 ((sec : Nat) : Int) ((v 0 : Nat) : Int) ((v 1 : Nat) : Int) 0 103 (Lib.hid (codeI_no (by simpa using hok) (by decide))) W)
                  have HX2 : Hid (X = ((0, 0, 0, 0, 0), some 2)) := Lib.hid (by rw [← hX.out]; show (if okB 11 ((sec : Nat) : Int) ((v 0 : Nat) : Int) ((v 1 : Nat) : Int) 0 = true then _ else _) = _; rw [if_neg hok])
                  clear hok
                  go_upto_region 54 with (first | (go_at_call 38; (with_reducible refine (HVI.out _).mono ?_); rintro e w5 ⟨rfl, hb5⟩; have HJ9 := Lib.hid (HJ_3.out.below hb5); have HR9 := Lib.hid (HR_3.out.below hb5); have HB9 := Lib.hid (HB_3.out.trans (hb5.mono HB_3.out.size))))
                  clear r0 r1 r2 r3 r4 rf hb5
                  have r0 := HJ9.out.c0
                  have r1 := HJ9.out.c1
                  have r2 := HJ9.out.c2
                  have r3 := HJ9.out.c3
                  have r4 := HJ9.out.c4
                  have q0 := HR9.out.c0
                  have q1 := HR9.out.c1
                  have q2 := HR9.out.c2
                  have q3 := HR9.out.c3
                  have q4 := HR9.out.c4
                  have qf := HR9.out.fz
                  go_wp2_with fail
                  have HI := HR9.out.set5 0 0 0 0 0
                  clear q0 q1 q2 q3 q4
                  have q0 := HI.c0; have q1 := HI.c1; have q2 := HI.c2; have q3 := HI.c3; have q4 := HI.c4; refine bodyPost_ret (v := .tuple #[.agg #[.int .i64 0, .int .i64 0, .int .i64 0, .int .i64 0, .int .i64 0], .int .i64 103]) (by simp [results, Tryz.results40, go_sem, q0, q1, q2, q3, q4]) rfl ⟨(by rw [HX2.out]; rfl), (bel5 HB9.out HRR.out)⟩
          · have e1 : ((n : Int) != 2 + (kB.size : Int)) = true := by rw [hHL.out, bne_iff_ne]; omega
            have HX2 : Hid (X = ((0, 0, 0, 0, 0), some 10)) := Lib.hid (by rw [← hX.out]; exact line_word s 11 hop.out (.inr (by rw [HN.out]; have h := HLL.out; replace h : 2 = L := h; show n ≠ 4; omega)))
            clear hc; have e2 : (kB.size : Int) ≤ 3 := by rw [hHL.out]; omega
            have q0 := HR4.out.c0
            have q1 := HR4.out.c1
            have q2 := HR4.out.c2
            have q3 := HR4.out.c3
            have q4 := HR4.out.c4
            have qf := HR4.out.fz
            go_wp2_with fail
            have HI := HR4.out.set5 0 0 0 0 0
            clear q0 q1 q2 q3 q4
            have q0 := HI.c0; have q1 := HI.c1; have q2 := HI.c2; have q3 := HI.c3; have q4 := HI.c4; refine bodyPost_ret (v := .tuple #[.agg #[.int .i64 0, .int .i64 0, .int .i64 0, .int .i64 0, .int .i64 0], .int .i64 111]) (by simp [results, Tryz.results40, go_sem, q0, q1, q2, q3, q4]) rfl ⟨(by rw [HX2.out]; rfl), (bel5 HBW4.out HRR.out)⟩
      · have hlt : k < 12 := by omega
        have hd12 : decide ((k : Int) < 12) = true := decide_eq_true (by omega)
        have ki : (k : Int) < 12 := by omega
        have k0 : (0 : Int) ≤ (k : Int) := by omega
        have hcx := (hbr.cell (p := ⟨g, 1, none⟩) HG3.out).trans (HC1.out hn3)
        have ST := Lib.hid (⟨hbr.drew, hcx⟩ : Below w3.heap.size w3 wr.drew ∧ wr.drew.cell? ⟨g, 1, none⟩ = some (.string x1))
        obtain ⟨y, hy⟩ : ∃ y, howS k = y := ⟨_, rfl⟩
        have HY := Lib.hid hy
        have ni : (1 : Int) < (n : Int) := by omega
        have HNm : Hid (∀ W, Calls Tryz.prog 50 #[.int .i64 (k : Int)] W fun e w' => e = .returned (.string y) ∧ Below W.heap.size W w') := Lib.hid (fun W => rhow_is k hlt y HY W)
        clear hbr h1k hcx hk hk12
        by_cases hxy : y = x1
        · have he : (y.toList == x1.toList) = true := by rw [hxy]; simp
          have HS : Hid (secF howS x1 (k + 1) = (k : Int)) := Lib.hid (by rw [secF, HY.out, if_pos hxy])
          clear hxy hy
          go_upto_region 14 with fail
          refine wp_region_noPanic ?_
          refine wp_region_held_drew (S := fun w' => Below w3.heap.size w3 w' ∧ w'.cell? ⟨g, 1, none⟩ = some (.string x1)) (by kernel_rfl) ST.out (fun hHeld => ?_)
          refine wpAnyH_take (i := 0) (v := ?_) (by rfl) (by kernel_rfl) (by kernel_rfl) (by kernel_rfl) (fun _ _ _ h => h) (Or.inl ⟨by kernel_rfl, ?_⟩) (by assumption) ?_; rotate_left 1; (focus (intro w hSw; (try dsimp only at hSw); simp only [List.getElem_toArray, List.getElem_cons_succ, List.getElem_cons_zero]; all_goals (try go_simp); all_goals (try with_reducible rfl); all_goals (try rfl))); (try simp only [Act.put, List.getElem_toArray, List.getElem_cons_succ, List.getElem_cons_zero, List.setIfInBounds_toArray, List.set_cons_zero, List.set_cons_succ])
          refine wpAnyH_take (i := 1) (v := ?_) (by rfl) (by kernel_rfl) (by kernel_rfl) (by kernel_rfl) (fun _ _ _ h => h) (Or.inl ⟨by kernel_rfl, ?_⟩) (by assumption) ?_; rotate_left 1; (focus (intro w hSw; (try dsimp only at hSw); simp only [List.getElem_toArray, List.getElem_cons_succ, List.getElem_cons_zero]; all_goals (try go_simp); all_goals (try with_reducible rfl); all_goals (try rfl))); (try simp only [Act.put, List.getElem_toArray, List.getElem_cons_succ, List.getElem_cons_zero, List.setIfInBounds_toArray, List.set_cons_zero, List.set_cons_succ])
          refine wpAnyH_take (i := 2) (v := ?_) (by rfl) (by kernel_rfl) (by kernel_rfl) (by kernel_rfl) (fun _ _ _ h => h) (Or.inl ⟨by kernel_rfl, ?_⟩) (by assumption) ?_; rotate_left 1; (focus (intro w hSw; (try dsimp only at hSw); simp only [List.getElem_toArray, List.getElem_cons_succ, List.getElem_cons_zero]; all_goals (try go_simp); all_goals (try with_reducible rfl); all_goals (try rfl))); (try simp only [Act.put, List.getElem_toArray, List.getElem_cons_succ, List.getElem_cons_zero, List.setIfInBounds_toArray, List.set_cons_zero, List.set_cons_succ])
          refine wpAnyH_take (i := 3) (v := undef) (by rfl) (by kernel_rfl) (by kernel_rfl) (by kernel_rfl) (fun _ _ _ h => h) (Or.inr ⟨by kernel_rfl, rfl⟩) (by assumption) ?_; (try simp only [Act.put, List.getElem_toArray, List.getElem_cons_succ, List.getElem_cons_zero, List.setIfInBounds_toArray, List.set_cons_zero, List.set_cons_succ])
          refine wpAnyH_take (i := 4) (v := undef) (by rfl) (by kernel_rfl) (by kernel_rfl) (by kernel_rfl) (fun _ _ _ h => h) (Or.inr ⟨by kernel_rfl, rfl⟩) (by assumption) ?_; (try simp only [Act.put, List.getElem_toArray, List.getElem_cons_succ, List.getElem_cons_zero, List.setIfInBounds_toArray, List.set_cons_zero, List.set_cons_succ])
          refine wpAnyH_take (i := 5) (v := undef) (by rfl) (by kernel_rfl) (by kernel_rfl) (by kernel_rfl) (fun _ _ _ h => h) (Or.inr ⟨by kernel_rfl, rfl⟩) (by assumption) ?_; (try simp only [Act.put, List.getElem_toArray, List.getElem_cons_succ, List.getElem_cons_zero, List.setIfInBounds_toArray, List.set_cons_zero, List.set_cons_succ])
          refine wpAnyH_take (i := 6) (v := undef) (by rfl) (by kernel_rfl) (by kernel_rfl) (by kernel_rfl) (fun _ _ _ h => h) (Or.inr ⟨by kernel_rfl, rfl⟩) (by assumption) ?_; (try simp only [Act.put, List.getElem_toArray, List.getElem_cons_succ, List.getElem_cons_zero, List.setIfInBounds_toArray, List.set_cons_zero, List.set_cons_succ])
          refine wpAnyH_take (i := 7) (v := undef) (by rfl) (by kernel_rfl) (by kernel_rfl) (by kernel_rfl) (fun _ _ _ h => h) (Or.inr ⟨by kernel_rfl, rfl⟩) (by assumption) ?_; (try simp only [Act.put, List.getElem_toArray, List.getElem_cons_succ, List.getElem_cons_zero, List.setIfInBounds_toArray, List.set_cons_zero, List.set_cons_succ])
          refine wpAnyH_take (i := 8) (v := undef) (by rfl) (by kernel_rfl) (by kernel_rfl) (by kernel_rfl) (fun _ _ _ h => h) (Or.inr ⟨by kernel_rfl, rfl⟩) (by assumption) ?_; (try simp only [Act.put, List.getElem_toArray, List.getElem_cons_succ, List.getElem_cons_zero, List.setIfInBounds_toArray, List.set_cons_zero, List.set_cons_succ])
          refine wpAnyH_take (i := 9) (v := ?_) (by rfl) (by kernel_rfl) (by kernel_rfl) (by kernel_rfl) (fun _ _ _ h => h) (Or.inl ⟨by kernel_rfl, ?_⟩) (by assumption) ?_; rotate_left 1; (focus (intro w hSw; (try dsimp only at hSw); simp only [List.getElem_toArray, List.getElem_cons_succ, List.getElem_cons_zero]; all_goals (try go_simp); all_goals (try with_reducible rfl); all_goals (try rfl))); (try simp only [Act.put, List.getElem_toArray, List.getElem_cons_succ, List.getElem_cons_zero, List.setIfInBounds_toArray, List.set_cons_zero, List.set_cons_succ])
          refine wpAnyH_take (i := 10) (v := ?_) (by rfl) (by kernel_rfl) (by kernel_rfl) (by kernel_rfl) (fun _ _ _ h => h) (Or.inl ⟨by kernel_rfl, ?_⟩) (by assumption) ?_; rotate_left 1; (focus (intro w hSw; (try dsimp only at hSw); simp only [List.getElem_toArray, List.getElem_cons_succ, List.getElem_cons_zero]; all_goals (try go_simp); all_goals (try with_reducible rfl); all_goals (try rfl))); (try simp only [Act.put, List.getElem_toArray, List.getElem_cons_succ, List.getElem_cons_zero, List.setIfInBounds_toArray, List.set_cons_zero, List.set_cons_succ])
          refine wpAnyH_take (i := 11) (v := ?_) (by rfl) (by kernel_rfl) (by kernel_rfl) (by kernel_rfl) (fun _ _ _ h => h) (Or.inl ⟨by kernel_rfl, ?_⟩) (by assumption) ?_; rotate_left 1; (focus (intro w hSw; (try dsimp only at hSw); simp only [List.getElem_toArray, List.getElem_cons_succ, List.getElem_cons_zero]; all_goals (try go_simp); all_goals (try with_reducible rfl); all_goals (try rfl))); (try simp only [Act.put, List.getElem_toArray, List.getElem_cons_succ, List.getElem_cons_zero, List.setIfInBounds_toArray, List.set_cons_zero, List.set_cons_succ])
          refine wpAnyH_take (i := 12) (v := ?_) (by rfl) (by kernel_rfl) (by kernel_rfl) (by kernel_rfl) (fun _ _ _ h => h) (Or.inl ⟨by kernel_rfl, ?_⟩) (by assumption) ?_; rotate_left 1; (focus (intro w hSw; (try dsimp only at hSw); simp only [List.getElem_toArray, List.getElem_cons_succ, List.getElem_cons_zero]; all_goals (try go_simp); all_goals (try with_reducible rfl); all_goals (try rfl))); (try simp only [Act.put, List.getElem_toArray, List.getElem_cons_succ, List.getElem_cons_zero, List.setIfInBounds_toArray, List.set_cons_zero, List.set_cons_succ])
          refine wpAnyH_take (i := 13) (v := ?_) (by rfl) (by kernel_rfl) (by kernel_rfl) (by kernel_rfl) (fun _ _ _ h => h) (Or.inl ⟨by kernel_rfl, ?_⟩) (by assumption) ?_; rotate_left 1; (focus (intro w hSw; (try dsimp only at hSw); simp only [List.getElem_toArray, List.getElem_cons_succ, List.getElem_cons_zero]; all_goals (try go_simp); all_goals (try with_reducible rfl); all_goals (try rfl))); (try simp only [Act.put, List.getElem_toArray, List.getElem_cons_succ, List.getElem_cons_zero, List.setIfInBounds_toArray, List.set_cons_zero, List.set_cons_succ])
          refine wpAnyH_take (i := 14) (v := ?_) (by rfl) (by kernel_rfl) (by kernel_rfl) (by kernel_rfl) (fun _ _ _ h => h) (Or.inl ⟨by kernel_rfl, ?_⟩) (by assumption) ?_; rotate_left 1; (focus (intro w hSw; (try dsimp only at hSw); simp only [List.getElem_toArray, List.getElem_cons_succ, List.getElem_cons_zero]; all_goals (try go_simp); all_goals (try with_reducible rfl); all_goals (try rfl))); (try simp only [Act.put, List.getElem_toArray, List.getElem_cons_succ, List.getElem_cons_zero, List.setIfInBounds_toArray, List.set_cons_zero, List.set_cons_succ])
          refine wpAnyH_take (i := 16) (v := ?_) (by rfl) (by kernel_rfl) (by kernel_rfl) (by kernel_rfl) (fun _ _ _ h => h) (Or.inl ⟨by kernel_rfl, ?_⟩) (by assumption) ?_; rotate_left 1; (focus (intro w hSw; (try dsimp only at hSw); simp only [List.getElem_toArray, List.getElem_cons_succ, List.getElem_cons_zero]; all_goals (try go_simp); all_goals (try with_reducible rfl); all_goals (try rfl))); (try simp only [Act.put, List.getElem_toArray, List.getElem_cons_succ, List.getElem_cons_zero, List.setIfInBounds_toArray, List.set_cons_zero, List.set_cons_succ])
          refine wpAnyH_take (i := 17) (v := ?_) (by rfl) (by kernel_rfl) (by kernel_rfl) (by kernel_rfl) (fun _ _ _ h => h) (Or.inl ⟨by kernel_rfl, ?_⟩) (by assumption) ?_; rotate_left 1; (focus (intro w hSw; (try dsimp only at hSw); simp only [List.getElem_toArray, List.getElem_cons_succ, List.getElem_cons_zero]; all_goals (try go_simp); all_goals (try with_reducible rfl); all_goals (try rfl))); (try simp only [Act.put, List.getElem_toArray, List.getElem_cons_succ, List.getElem_cons_zero, List.setIfInBounds_toArray, List.set_cons_zero, List.set_cons_succ])
          refine wpAnyH_take (i := 18) (v := ?_) (by rfl) (by kernel_rfl) (by kernel_rfl) (by kernel_rfl) (fun _ _ _ h => h) (Or.inl ⟨by kernel_rfl, ?_⟩) (by assumption) ?_; rotate_left 1; (focus (intro w hSw; (try dsimp only at hSw); simp only [List.getElem_toArray, List.getElem_cons_succ, List.getElem_cons_zero]; all_goals (try go_simp); all_goals (try with_reducible rfl); all_goals (try rfl))); (try simp only [Act.put, List.getElem_toArray, List.getElem_cons_succ, List.getElem_cons_zero, List.setIfInBounds_toArray, List.set_cons_zero, List.set_cons_succ])
          refine wpAnyH_ready (rs := [15]) (by kernel_rfl) (by simp) ?_; refine AllReadyH.cons (by rfl) (fun K hK => ?_) AllReadyH.nil; rw [if_pos (by kernel_rfl)]; simp only [List.getElem_toArray, List.getElem_cons_succ, List.getElem_cons_zero]; go_wp2_with (first | (go_at_call 50; (with_reducible refine (HNm.out _).mono ?_); rintro e w' ⟨rfl, hb⟩)); refine hK.out _ _ ?_ (fun hHeld => ?_); (focus (exact sgkeep (by assumption) HG3 hb)); clear hK K hb; try (try simp only [Act.put, List.getElem_toArray, List.getElem_cons_succ, List.getElem_cons_zero, List.setIfInBounds_toArray, List.set_cons_zero, List.set_cons_succ])
          refine wpAnyH_take (i := 19) (v := ?_) (by rfl) (by kernel_rfl) (by kernel_rfl) (by kernel_rfl) (fun _ _ _ h => h) (Or.inl ⟨by kernel_rfl, ?_⟩) (by assumption) ?_; rotate_left 1; (focus (intro w hSw; (try dsimp only at hSw); simp only [List.getElem_toArray, List.getElem_cons_succ, List.getElem_cons_zero]; all_goals (try go_simp); all_goals (try with_reducible rfl); all_goals (try rfl))); (try simp only [Act.put, List.getElem_toArray, List.getElem_cons_succ, List.getElem_cons_zero, List.setIfInBounds_toArray, List.set_cons_zero, List.set_cons_succ])
          refine wpAnyH_take (i := 20) (v := ?_) (by rfl) (by kernel_rfl) (by kernel_rfl) (by kernel_rfl) (fun _ _ _ h => h) (Or.inl ⟨by kernel_rfl, ?_⟩) (by assumption) ?_; rotate_left 1; (focus (intro w hSw; (try dsimp only at hSw); simp only [List.getElem_toArray, List.getElem_cons_succ, List.getElem_cons_zero]; all_goals (try go_simp); all_goals (try with_reducible rfl); all_goals (try rfl))); (try simp only [Act.put, List.getElem_toArray, List.getElem_cons_succ, List.getElem_cons_zero, List.setIfInBounds_toArray, List.set_cons_zero, List.set_cons_succ])
          refine wpAnyH_take (i := 21) (v := ?_) (by rfl) (by kernel_rfl) (by kernel_rfl) (by kernel_rfl) (fun _ _ _ h => h) (Or.inl ⟨by kernel_rfl, ?_⟩) (by assumption) ?_; rotate_left 1; (focus (intro w hSw; (try dsimp only at hSw); simp only [List.getElem_toArray, List.getElem_cons_succ, List.getElem_cons_zero]; all_goals (try go_simp); all_goals (try with_reducible rfl); all_goals (try rfl))); (try simp only [Act.put, List.getElem_toArray, List.getElem_cons_succ, List.getElem_cons_zero, List.setIfInBounds_toArray, List.set_cons_zero, List.set_cons_succ])
          refine wpAnyH_done (by kernel_rfl) ?_ _
          refine NoPanic.normal ?_
          have hS := Lib.hid (show Below w3.heap.size w3 _ from And.left (by assumption))
          go_wp2_with fail
          go_roundw
          case rel => exact ⟨k + 1, by omega, by go_num, by rw [HS.out], fun e => absurd e hn2, hS.out⟩
          case measure => simp [intOf]; omega
        · have he : (y.toList == x1.toList) = false := by rw [beq_eq_false_iff_ne]; intro e; rw [Lib.toList_data, Lib.toList_data] at e; exact hxy (ba_ext2 e)
          have HS : Hid (secF howS x1 (k + 1) = secF howS x1 k) := Lib.hid (by rw [secF, HY.out, if_neg hxy])
          clear hxy hy
          go_upto_region 14 with fail
          refine wp_region_noPanic ?_
          refine wp_region_held_drew (S := fun w' => Below w3.heap.size w3 w' ∧ w'.cell? ⟨g, 1, none⟩ = some (.string x1)) (by kernel_rfl) ST.out (fun hHeld => ?_)
          refine wpAnyH_take (i := 0) (v := ?_) (by rfl) (by kernel_rfl) (by kernel_rfl) (by kernel_rfl) (fun _ _ _ h => h) (Or.inl ⟨by kernel_rfl, ?_⟩) (by assumption) ?_; rotate_left 1; (focus (intro w hSw; (try dsimp only at hSw); simp only [List.getElem_toArray, List.getElem_cons_succ, List.getElem_cons_zero]; all_goals (try go_simp); all_goals (try with_reducible rfl); all_goals (try rfl))); (try simp only [Act.put, List.getElem_toArray, List.getElem_cons_succ, List.getElem_cons_zero, List.setIfInBounds_toArray, List.set_cons_zero, List.set_cons_succ])
          refine wpAnyH_take (i := 1) (v := ?_) (by rfl) (by kernel_rfl) (by kernel_rfl) (by kernel_rfl) (fun _ _ _ h => h) (Or.inl ⟨by kernel_rfl, ?_⟩) (by assumption) ?_; rotate_left 1; (focus (intro w hSw; (try dsimp only at hSw); simp only [List.getElem_toArray, List.getElem_cons_succ, List.getElem_cons_zero]; all_goals (try go_simp); all_goals (try with_reducible rfl); all_goals (try rfl))); (try simp only [Act.put, List.getElem_toArray, List.getElem_cons_succ, List.getElem_cons_zero, List.setIfInBounds_toArray, List.set_cons_zero, List.set_cons_succ])
          refine wpAnyH_take (i := 2) (v := ?_) (by rfl) (by kernel_rfl) (by kernel_rfl) (by kernel_rfl) (fun _ _ _ h => h) (Or.inl ⟨by kernel_rfl, ?_⟩) (by assumption) ?_; rotate_left 1; (focus (intro w hSw; (try dsimp only at hSw); simp only [List.getElem_toArray, List.getElem_cons_succ, List.getElem_cons_zero]; all_goals (try go_simp); all_goals (try with_reducible rfl); all_goals (try rfl))); (try simp only [Act.put, List.getElem_toArray, List.getElem_cons_succ, List.getElem_cons_zero, List.setIfInBounds_toArray, List.set_cons_zero, List.set_cons_succ])
          refine wpAnyH_take (i := 3) (v := undef) (by rfl) (by kernel_rfl) (by kernel_rfl) (by kernel_rfl) (fun _ _ _ h => h) (Or.inr ⟨by kernel_rfl, rfl⟩) (by assumption) ?_; (try simp only [Act.put, List.getElem_toArray, List.getElem_cons_succ, List.getElem_cons_zero, List.setIfInBounds_toArray, List.set_cons_zero, List.set_cons_succ])
          refine wpAnyH_take (i := 4) (v := undef) (by rfl) (by kernel_rfl) (by kernel_rfl) (by kernel_rfl) (fun _ _ _ h => h) (Or.inr ⟨by kernel_rfl, rfl⟩) (by assumption) ?_; (try simp only [Act.put, List.getElem_toArray, List.getElem_cons_succ, List.getElem_cons_zero, List.setIfInBounds_toArray, List.set_cons_zero, List.set_cons_succ])
          refine wpAnyH_take (i := 5) (v := undef) (by rfl) (by kernel_rfl) (by kernel_rfl) (by kernel_rfl) (fun _ _ _ h => h) (Or.inr ⟨by kernel_rfl, rfl⟩) (by assumption) ?_; (try simp only [Act.put, List.getElem_toArray, List.getElem_cons_succ, List.getElem_cons_zero, List.setIfInBounds_toArray, List.set_cons_zero, List.set_cons_succ])
          refine wpAnyH_take (i := 6) (v := undef) (by rfl) (by kernel_rfl) (by kernel_rfl) (by kernel_rfl) (fun _ _ _ h => h) (Or.inr ⟨by kernel_rfl, rfl⟩) (by assumption) ?_; (try simp only [Act.put, List.getElem_toArray, List.getElem_cons_succ, List.getElem_cons_zero, List.setIfInBounds_toArray, List.set_cons_zero, List.set_cons_succ])
          refine wpAnyH_take (i := 7) (v := undef) (by rfl) (by kernel_rfl) (by kernel_rfl) (by kernel_rfl) (fun _ _ _ h => h) (Or.inr ⟨by kernel_rfl, rfl⟩) (by assumption) ?_; (try simp only [Act.put, List.getElem_toArray, List.getElem_cons_succ, List.getElem_cons_zero, List.setIfInBounds_toArray, List.set_cons_zero, List.set_cons_succ])
          refine wpAnyH_take (i := 8) (v := undef) (by rfl) (by kernel_rfl) (by kernel_rfl) (by kernel_rfl) (fun _ _ _ h => h) (Or.inr ⟨by kernel_rfl, rfl⟩) (by assumption) ?_; (try simp only [Act.put, List.getElem_toArray, List.getElem_cons_succ, List.getElem_cons_zero, List.setIfInBounds_toArray, List.set_cons_zero, List.set_cons_succ])
          refine wpAnyH_take (i := 9) (v := ?_) (by rfl) (by kernel_rfl) (by kernel_rfl) (by kernel_rfl) (fun _ _ _ h => h) (Or.inl ⟨by kernel_rfl, ?_⟩) (by assumption) ?_; rotate_left 1; (focus (intro w hSw; (try dsimp only at hSw); simp only [List.getElem_toArray, List.getElem_cons_succ, List.getElem_cons_zero]; all_goals (try go_simp); all_goals (try with_reducible rfl); all_goals (try rfl))); (try simp only [Act.put, List.getElem_toArray, List.getElem_cons_succ, List.getElem_cons_zero, List.setIfInBounds_toArray, List.set_cons_zero, List.set_cons_succ])
          refine wpAnyH_take (i := 10) (v := ?_) (by rfl) (by kernel_rfl) (by kernel_rfl) (by kernel_rfl) (fun _ _ _ h => h) (Or.inl ⟨by kernel_rfl, ?_⟩) (by assumption) ?_; rotate_left 1; (focus (intro w hSw; (try dsimp only at hSw); simp only [List.getElem_toArray, List.getElem_cons_succ, List.getElem_cons_zero]; all_goals (try go_simp); all_goals (try with_reducible rfl); all_goals (try rfl))); (try simp only [Act.put, List.getElem_toArray, List.getElem_cons_succ, List.getElem_cons_zero, List.setIfInBounds_toArray, List.set_cons_zero, List.set_cons_succ])
          refine wpAnyH_take (i := 11) (v := ?_) (by rfl) (by kernel_rfl) (by kernel_rfl) (by kernel_rfl) (fun _ _ _ h => h) (Or.inl ⟨by kernel_rfl, ?_⟩) (by assumption) ?_; rotate_left 1; (focus (intro w hSw; (try dsimp only at hSw); simp only [List.getElem_toArray, List.getElem_cons_succ, List.getElem_cons_zero]; all_goals (try go_simp); all_goals (try with_reducible rfl); all_goals (try rfl))); (try simp only [Act.put, List.getElem_toArray, List.getElem_cons_succ, List.getElem_cons_zero, List.setIfInBounds_toArray, List.set_cons_zero, List.set_cons_succ])
          refine wpAnyH_take (i := 12) (v := ?_) (by rfl) (by kernel_rfl) (by kernel_rfl) (by kernel_rfl) (fun _ _ _ h => h) (Or.inl ⟨by kernel_rfl, ?_⟩) (by assumption) ?_; rotate_left 1; (focus (intro w hSw; (try dsimp only at hSw); simp only [List.getElem_toArray, List.getElem_cons_succ, List.getElem_cons_zero]; all_goals (try go_simp); all_goals (try with_reducible rfl); all_goals (try rfl))); (try simp only [Act.put, List.getElem_toArray, List.getElem_cons_succ, List.getElem_cons_zero, List.setIfInBounds_toArray, List.set_cons_zero, List.set_cons_succ])
          refine wpAnyH_take (i := 13) (v := ?_) (by rfl) (by kernel_rfl) (by kernel_rfl) (by kernel_rfl) (fun _ _ _ h => h) (Or.inl ⟨by kernel_rfl, ?_⟩) (by assumption) ?_; rotate_left 1; (focus (intro w hSw; (try dsimp only at hSw); simp only [List.getElem_toArray, List.getElem_cons_succ, List.getElem_cons_zero]; all_goals (try go_simp); all_goals (try with_reducible rfl); all_goals (try rfl))); (try simp only [Act.put, List.getElem_toArray, List.getElem_cons_succ, List.getElem_cons_zero, List.setIfInBounds_toArray, List.set_cons_zero, List.set_cons_succ])
          refine wpAnyH_take (i := 14) (v := ?_) (by rfl) (by kernel_rfl) (by kernel_rfl) (by kernel_rfl) (fun _ _ _ h => h) (Or.inl ⟨by kernel_rfl, ?_⟩) (by assumption) ?_; rotate_left 1; (focus (intro w hSw; (try dsimp only at hSw); simp only [List.getElem_toArray, List.getElem_cons_succ, List.getElem_cons_zero]; all_goals (try go_simp); all_goals (try with_reducible rfl); all_goals (try rfl))); (try simp only [Act.put, List.getElem_toArray, List.getElem_cons_succ, List.getElem_cons_zero, List.setIfInBounds_toArray, List.set_cons_zero, List.set_cons_succ])
          refine wpAnyH_take (i := 16) (v := ?_) (by rfl) (by kernel_rfl) (by kernel_rfl) (by kernel_rfl) (fun _ _ _ h => h) (Or.inl ⟨by kernel_rfl, ?_⟩) (by assumption) ?_; rotate_left 1; (focus (intro w hSw; (try dsimp only at hSw); simp only [List.getElem_toArray, List.getElem_cons_succ, List.getElem_cons_zero]; all_goals (try go_simp); all_goals (try with_reducible rfl); all_goals (try rfl))); (try simp only [Act.put, List.getElem_toArray, List.getElem_cons_succ, List.getElem_cons_zero, List.setIfInBounds_toArray, List.set_cons_zero, List.set_cons_succ])
          refine wpAnyH_take (i := 17) (v := ?_) (by rfl) (by kernel_rfl) (by kernel_rfl) (by kernel_rfl) (fun _ _ _ h => h) (Or.inl ⟨by kernel_rfl, ?_⟩) (by assumption) ?_; rotate_left 1; (focus (intro w hSw; (try dsimp only at hSw); simp only [List.getElem_toArray, List.getElem_cons_succ, List.getElem_cons_zero]; all_goals (try go_simp); all_goals (try with_reducible rfl); all_goals (try rfl))); (try simp only [Act.put, List.getElem_toArray, List.getElem_cons_succ, List.getElem_cons_zero, List.setIfInBounds_toArray, List.set_cons_zero, List.set_cons_succ])
          refine wpAnyH_take (i := 18) (v := ?_) (by rfl) (by kernel_rfl) (by kernel_rfl) (by kernel_rfl) (fun _ _ _ h => h) (Or.inl ⟨by kernel_rfl, ?_⟩) (by assumption) ?_; rotate_left 1; (focus (intro w hSw; (try dsimp only at hSw); simp only [List.getElem_toArray, List.getElem_cons_succ, List.getElem_cons_zero]; all_goals (try go_simp); all_goals (try with_reducible rfl); all_goals (try rfl))); (try simp only [Act.put, List.getElem_toArray, List.getElem_cons_succ, List.getElem_cons_zero, List.setIfInBounds_toArray, List.set_cons_zero, List.set_cons_succ])
          refine wpAnyH_ready (rs := [15]) (by kernel_rfl) (by simp) ?_; refine AllReadyH.cons (by rfl) (fun K hK => ?_) AllReadyH.nil; rw [if_pos (by kernel_rfl)]; simp only [List.getElem_toArray, List.getElem_cons_succ, List.getElem_cons_zero]; go_wp2_with (first | (go_at_call 50; (with_reducible refine (HNm.out _).mono ?_); rintro e w' ⟨rfl, hb⟩)); refine hK.out _ _ ?_ (fun hHeld => ?_); (focus (exact sgkeep (by assumption) HG3 hb)); clear hK K hb; try (try simp only [Act.put, List.getElem_toArray, List.getElem_cons_succ, List.getElem_cons_zero, List.setIfInBounds_toArray, List.set_cons_zero, List.set_cons_succ])
          refine wpAnyH_take (i := 19) (v := ?_) (by rfl) (by kernel_rfl) (by kernel_rfl) (by kernel_rfl) (fun _ _ _ h => h) (Or.inl ⟨by kernel_rfl, ?_⟩) (by assumption) ?_; rotate_left 1; (focus (intro w hSw; (try dsimp only at hSw); simp only [List.getElem_toArray, List.getElem_cons_succ, List.getElem_cons_zero]; all_goals (try go_simp); all_goals (try with_reducible rfl); all_goals (try rfl))); (try simp only [Act.put, List.getElem_toArray, List.getElem_cons_succ, List.getElem_cons_zero, List.setIfInBounds_toArray, List.set_cons_zero, List.set_cons_succ])
          refine wpAnyH_take (i := 20) (v := ?_) (by rfl) (by kernel_rfl) (by kernel_rfl) (by kernel_rfl) (fun _ _ _ h => h) (Or.inl ⟨by kernel_rfl, ?_⟩) (by assumption) ?_; rotate_left 1; (focus (intro w hSw; (try dsimp only at hSw); simp only [List.getElem_toArray, List.getElem_cons_succ, List.getElem_cons_zero]; all_goals (try go_simp); all_goals (try with_reducible rfl); all_goals (try rfl))); (try simp only [Act.put, List.getElem_toArray, List.getElem_cons_succ, List.getElem_cons_zero, List.setIfInBounds_toArray, List.set_cons_zero, List.set_cons_succ])
          refine wpAnyH_take (i := 21) (v := ?_) (by rfl) (by kernel_rfl) (by kernel_rfl) (by kernel_rfl) (fun _ _ _ h => h) (Or.inl ⟨by kernel_rfl, ?_⟩) (by assumption) ?_; rotate_left 1; (focus (intro w hSw; (try dsimp only at hSw); simp only [List.getElem_toArray, List.getElem_cons_succ, List.getElem_cons_zero]; all_goals (try go_simp); all_goals (try with_reducible rfl); all_goals (try rfl))); (try simp only [Act.put, List.getElem_toArray, List.getElem_cons_succ, List.getElem_cons_zero, List.setIfInBounds_toArray, List.set_cons_zero, List.set_cons_succ])
          refine wpAnyH_done (by kernel_rfl) ?_ _
          refine NoPanic.normal ?_
          have hS := Lib.hid (show Below w3.heap.size w3 _ from And.left (by assumption))
          go_wp2_with fail
          go_roundw
          case rel => exact ⟨k + 1, by omega, by go_num, by rw [HS.out], fun e => absurd e hn2, hS.out⟩
          case measure => simp [intOf]; omega
end Go.Proofs.YtaekccgcnlepaaaGreatDoor
