/-
  turnkeyref1.AsmLine: any line whose first word is op 3.
-/
import Derived.Test.YtaekccgcnlepaaaGreatDoorRh
namespace Go.Proofs.YtaekccgcnlepaaaGreatDoor
open Go.ChangeShapes Go.WideShapes Go.ChangeAt Go.RowKit Go.Maps
set_option linter.unusedVariables false
set_option linter.unusedSimpArgs false
theorem split_ne (l : List UInt8) : ∀ cur x, x ∈ splitFrom cur l → x ≠ [] := by
  induction l with
  | nil =>
    intro cur x hx
    rw [splitFrom] at hx
    split at hx
    · cases hx
    · rename_i h; simp at hx; subst hx; exact h
  | cons b r ih =>
    intro cur x hx
    rw [splitFrom] at hx
    split at hx
    · split at hx
      · exact ih [] x hx
      · rename_i h
        rcases List.mem_cons.1 hx with rfl | hx
        · exact h
        · exact ih [] x hx
    · exact ih _ x hx
theorem tok_ne (s : ByteArray) (i : Nat) (h : i < (tokB s).length) : ((tokB s).getD i ⟨#[]⟩).data.toList ≠ [] := by
  have hm : (tokB s).getD i ⟨#[]⟩ ∈ tokB s := by simp [List.getD, h]
  unfold tokB at hm
  obtain ⟨l, hl, e⟩ := List.mem_map.1 hm
  unfold tokB
  rw [← e]
  show l.toArray.toList ≠ []
  rw [List.toList_toArray]
  exact split_ne _ _ _ hl
/-- The last of the names ahead of k that is this word; less than 0: none. -/
def secF (nm : Nat → ByteArray) (x : ByteArray) : Nat → Int
  | 0 => -1
  | k + 1 => if nm k = x then (k : Int) else secF nm x k
def secO (o : Option Nat) : Int := match o with | some k => (k : Int) | none => -1
theorem sec_none (nm : Nat → ByteArray) (x : ByteArray) : ∀ k, (∀ i, i < k → nm i ≠ x) → secF nm x k = -1 := by
  intro k
  induction k with
  | zero => intro _; rfl
  | succ k ih =>
    intro h
    rw [secF, if_neg (h k (by omega))]
    exact ih (fun i hi => h i (by omega))
theorem sec_at (nm : Nat → ByteArray) (x : ByteArray) (j : Nat) (hj : nm j = x) : ∀ k, j < k → (∀ i, j < i → i < k → nm i ≠ x) → secF nm x k = (j : Int) := by
  intro k
  induction k with
  | zero => intro h; omega
  | succ k ih =>
    intro h hn
    by_cases e : k = j
    · subst e; rw [secF, if_pos hj]
    · rw [secF, if_neg (hn k (by omega) (by omega))]
      exact ih (by omega) (fun i h1 h2 => hn i h1 (by omega))
def wB (n : Nat) : ByteArray := ⟨(wNm.getD n []).toArray⟩
theorem ba_ext2 {a b : ByteArray} (h : a.data.toList = b.data.toList) : a = b := by
  cases a; cases b
  congr 1
  exact Array.toList_inj.1 h
theorem wB_inj : ∀ i : Fin 12, ∀ j : Fin 12, (wNm.getD i.val [] = wNm.getD j.val []) → i = j := by decide
theorem hB_inj : ∀ i : Fin 3, ∀ j : Fin 3, (mNm.getD i.val [] = mNm.getD j.val []) → i = j := by decide
theorem sec_w (x : ByteArray) : secF wB x 12 = secO (idxL wNm x.data.toList) := by
  by_cases h : ∃ j, j < 12 ∧ wNm.getD j [] = x.data.toList
  · obtain ⟨j, hj, e⟩ := h
    have hx : wB j = x := ba_ext2 e
    have hu : ∀ i, i < 12 → i ≠ j → wNm.getD i [] ≠ x.data.toList := fun i hi hn e2 => hn (congrArg Fin.val (wB_inj ⟨i, hi⟩ ⟨j, hj⟩ (e2.trans e.symm)))
    rw [idx_at wNm _ j hj (fun i hi => hu i (by omega) (by omega)) e, sec_at wB x j hx 12 hj (fun i h1 h2 e2 => hu i h2 (by omega) (by rw [← e2]; rfl))]
    rfl
  · rw [idx_no wNm _ (fun i hi e => h ⟨i, hi, e⟩), sec_none wB x 12 (fun i hi e => h ⟨i, hi, by rw [← e]; rfl⟩)]
    rfl
theorem howS_lt (i : Nat) (h : i < 3) : (howS i).data.toList = mNm.getD i [] := by unfold howS; rw [if_pos h]
theorem howS_ge (i : Nat) (h : ¬ i < 3) : (howS i).data.toList = [] := by unfold howS; rw [if_neg h]
theorem sec_h (x : ByteArray) (hx0 : x.data.toList ≠ []) : secF howS x 12 = secO (idxL mNm x.data.toList) := by
  by_cases h : ∃ j, j < 3 ∧ mNm.getD j [] = x.data.toList
  · obtain ⟨j, hj, e⟩ := h
    have hx : howS j = x := ba_ext2 ((howS_lt j hj).trans e)
    have hu : ∀ i, i < 3 → i ≠ j → mNm.getD i [] ≠ x.data.toList := fun i hi hn e2 => hn (congrArg Fin.val (hB_inj ⟨i, hi⟩ ⟨j, hj⟩ (e2.trans e.symm)))
    rw [idx_at mNm _ j hj (fun i hi => hu i (by omega) (by omega)) e, sec_at howS x j hx 12 (by omega) (fun i h1 h2 e2 => by
      by_cases h3 : i < 3
      · exact hu i h3 (by omega) (by rw [← e2, howS_lt i h3])
      · exact hx0 (by rw [← e2, howS_ge i h3]))]
    rfl
  · rw [idx_no mNm _ (fun i hi e => h ⟨i, hi, e⟩), sec_none howS x 12 (fun i hi e => by
      by_cases h3 : i < 3
      · exact h ⟨i, h3, by rw [← e, howS_lt i h3]⟩
      · exact hx0 (by rw [← e, howS_ge i h3]))]
    rfl
set_option maxRecDepth 100000 in
set_option maxHeartbeats 16000000 in
theorem rasm_3 (s : ByteArray) (hs : s.size ≤ 900) (n : Nat) (HN : Hid ((tokB s).length = n)) (hn0 : 0 < n) (hn1 : n ≤ 1000) (hop : Hid (opW (tokB s) = 3)) (X : (Int × Int × Int × Int × Int) × Option Nat) (hX : Hid (lineV s = X)) (w : World) : Calls Tryz.prog 40 #[.string s] w fun e w' => e = .returned (.tuple #[(.agg #[.int .i64 X.1.1, .int .i64 X.1.2.1, .int .i64 X.1.2.2.1, .int .i64 X.1.2.2.2.1, .int .i64 X.1.2.2.2.2]), .int .i64 (codR X.2)]) ∧ Below w.heap.size w w' := by
  have HSp := Lib.hid (rsplit_is s hs (w.alloc (.cells #[.int .i64 0, .int .i64 0, .int .i64 0, .int .i64 0, .int .i64 0] 66)))
  have HB0 : Hid (Below w.heap.size w (w.alloc (.cells #[.int .i64 0, .int .i64 0, .int .i64 0, .int .i64 0, .int .i64 0] 66))) := Lib.hid ((Below.refl _ _).alloc (Nat.le_refl _) _)
  have HR0 := Lib.hid (I5.new w 66 0 0 0 0 0)
  obtain ⟨x0, hx0⟩ : ∃ x0, (tokB s).getD 0 ⟨#[]⟩ = x0 := ⟨_, rfl⟩
  have HC0 : Hid (((tokB s).map Value.string)[0]? = some (.string x0)) := Lib.hid (by
    have hl : 0 < (tokB s).length := by rw [HN.out]; exact hn0
    rw [List.getElem?_map, List.getElem?_eq_getElem hl, ← hx0]
    simp [List.getD, hl])
  have HOp : Hid (opL x0.data.toList = 3) := Lib.hid (by
    rw [← hop.out, ← hx0]
    have hl : 0 < (tokB s).length := by rw [HN.out]; exact hn0
    cases hq : tokB s with
    | nil => rw [hq] at hl; cases hl
    | cons y r => rfl)
  obtain ⟨kB, hkB⟩ : ∃ kB : ByteArray, kB = ⟨(kdL.getD 3 []).toArray⟩ := ⟨_, rfl⟩
  have hsz := kB_size ⟨3, by decide⟩
  simp only at hsz
  rw [← hkB] at hsz
  obtain ⟨hz1, hz2⟩ := hsz
  rw [← hz1] at hz2
  obtain ⟨L, hL⟩ : ∃ L, kB.size = L := ⟨_, rfl⟩
  have HLL : Hid ((kdL.getD 3 []).length = L) := Lib.hid (by rw [← hz1]; exact hL)
  have HKB := Lib.hid hkB
  rw [hL] at hz2
  have n0 : ((n : Int) == 0) = false := by simp; omega
  have n2 : (0 : Int) < (n : Int) := by omega
  have HSh : Hid (∀ W, Calls Tryz.prog 59 #[.string x0] W fun e w' => e = .returned (.tuple #[.string kB, .int .i64 (3 : Int)]) ∧ W = w') := Lib.hid (fun W => by rw [hkB]; exact rshape_is x0 3 HOp W)
  clear hx0 hz1 hkB
  go_enter Tryz.func40, Tryz.ntmps40
  go_upto_region 8 with (first | (go_at_call 15; refine HSp.out.mono ?_; rintro e w1 ⟨ad, n', cp, rfl, hl⟩; obtain rfl : n = n' := (by have := hl.len; rw [HN.out] at this; exact this); obtain ⟨g, hg⟩ := own_some hl.row hn0; subst hg; have c0 := hl.row.cellAt 0 (by omega); have HB1 := Lib.hid (HB0.out.trans (hl.bel.mono HB0.out.size)); have HR1 := Lib.hid (HR0.out.below hl.bel); have HL1 := Lib.hid hl; rw [HC0.out] at c0; clear hl) | (go_at_call 59; (with_reducible refine (HSh.out _).mono ?_); rintro e w2 ⟨rfl, rfl⟩))
  clear c0
  generalize hA : World.alloc w1 _ = w3
  have HB3 : Hid (Below w1.heap.size w1 w3) := Lib.hid (by rw [← hA]; exact (Below.refl _ _).alloc (Nat.le_refl _) _)
  obtain ⟨J, hJ⟩ : ∃ J, J = w1.heap.size := ⟨_, rfl⟩
  have HJ3 : Hid (I5 w3 J (3 : Int) 0 0 0 0) := Lib.hid (by rw [← hA, hJ]; exact I5.new _ _ _ _ _ _ _)
  rw [← hJ]
  obtain ⟨R, hR⟩ : ∃ R, R = w.heap.size := ⟨_, rfl⟩
  have HR3 := Lib.hid (HR1.out.below HB3.out)
  have HBW := Lib.hid (HB1.out.trans (HB3.out.mono HB1.out.size))
  rw [← hR] at HR3 ⊢
  have HRR : Hid (w.heap.size ≤ R) := Lib.hid (by rw [hR]; exact Nat.le_refl _)
  have HRJ : Hid (R ≠ J ∧ w.heap.size ≤ J) := Lib.hid (by have h1 := HR1.out.lt; have h2 := HB1.out.size; rw [hR, hJ]; omega)
  have HL3 := Lib.hid (HL1.out.below HB3.out)
  have HG3 : Hid (g < w3.heap.size) := Lib.hid (HL3.out.row.lt g rfl).2
  clear hR HR1 hJ hA
  obtain ⟨x1, hx1⟩ : ∃ x1, (tokB s).getD 1 ⟨#[]⟩ = x1 := ⟨_, rfl⟩
  have HX1 := Lib.hid hx1
  have HC1 : Hid (1 < n → w3.cell? ⟨g, 1, none⟩ = some (.string x1)) := Lib.hid (fun h1 => by
    have hl : 1 < (tokB s).length := by rw [HN.out]; exact h1
    have := HL3.out.row.cellAt 1 (by omega)
    rw [this, ← hx1]
    simp [List.getD, hl])
  have hHL := Lib.hid hL
  clear hx1 hL
  go_upto_region 12 with fail
  go_loopw [9, 10] (fun sc i wr => ∃ k : Nat, k ≤ 12 ∧ i = .int .i64 k ∧ sc = .int .i64 (secF wB x1 k) ∧ (n = 1 → k = 0) ∧ Below w3.heap.size w3 wr) (fun _ i _ => 12 - (intOf i).toNat)
  case atStart => exact ⟨0, by omega, rfl, rfl, fun _ => rfl, Below.refl _ _⟩
  case round =>
    obtain ⟨k, hk, rfl, rfl, h1k, hbr⟩ := hrel
    have HBr := Lib.hid hbr
    by_cases hn2 : n = 1
    · obtain rfl : k = 0 := h1k hn2
      subst hn2
      have HX2 : Hid (X = ((0, 0, 0, 0, 0), some 10)) := Lib.hid (by rw [← hX.out]; exact line_word s 3 hop.out (.inr (by rw [HN.out]; decide)))
      have HRn := Lib.hid (HR3.out.below hbr)
      have q0 := HRn.out.c0
      have q1 := HRn.out.c1
      have q2 := HRn.out.c2
      have q3 := HRn.out.c3
      have q4 := HRn.out.c4
      have qf := HRn.out.fz
      have hs0 : secF wB x1 0 = -1 := rfl
      clear hbr h1k hk
      rw [hs0]
      clear hs0
      go_wp2_with fail
      have HI := HRn.out.set5 0 0 0 0 0
      clear q0 q1 q2 q3 q4
      have q0 := HI.c0; have q1 := HI.c1; have q2 := HI.c2; have q3 := HI.c3; have q4 := HI.c4; refine bodyPost_ret (v := .tuple #[.agg #[.int .i64 0, .int .i64 0, .int .i64 0, .int .i64 0, .int .i64 0], .int .i64 111]) (by simp [results, Tryz.results40, go_sem, q0, q1, q2, q3, q4]) rfl ⟨(by rw [HX2.out]; rfl), (bel5 (HBW.out.trans (HBr.out.mono HBW.out.size)) HRR.out)⟩
    · have hn3 : 1 < n := by omega
      have b1 : decide ((1 : Int) < (n : Int)) = true := decide_eq_true (by omega)
      by_cases hk12 : k = 12
      · obtain ⟨w4, hw4⟩ : ∃ w4, w4 = wr := ⟨_, rfl⟩
        subst hw4
        have HR4 := Lib.hid (HR3.out.below hbr)
        have HJ4 : Hid (I5 w4 J 3 0 0 0 0) := Lib.hid (HJ3.out.below hbr)
        have HBW4 := Lib.hid (HBW.out.trans (hbr.mono HBW.out.size))
        have HL4 := Lib.hid (HL3.out.below hbr)
        have HG4 : Hid (g < w4.heap.size) := Lib.hid (Nat.lt_of_lt_of_le HG3.out hbr.size)
        obtain ⟨sc, hsc⟩ : ∃ sc, secF wB x1 k = sc := ⟨_, rfl⟩
        have HSC : Hid (secO (idxL wNm x1.data.toList) = sc) := Lib.hid (by rw [← hsc, hk12]; exact (sec_w x1).symm)
        have hd12 : decide ((k : Int) < 12) = false := decide_eq_false (by omega)
        rw [hsc]
        clear hsc hbr h1k hk hk12 HBr HR3 HJ3 HBW HL3 HG3 hn2
        by_cases hsn : sc = -1
        · have HX2 : Hid (X = ((0, 0, 0, 0, 0), some 10)) := Lib.hid (by rw [← hX.out]; exact line_second s 3 hop.out (.inl ⟨rfl, by rw [HX1.out]; have h := HSC.out; cases hq : idxL wNm x1.data.toList with | none => rfl | some y => (rw [hq, hsn] at h; simp [secO] at h)⟩))
          subst hsn
          have q0 := HR4.out.c0
          have q1 := HR4.out.c1
          have q2 := HR4.out.c2
          have q3 := HR4.out.c3
          have q4 := HR4.out.c4
          have qf := HR4.out.fz
          go_wp2_with fail
          have HI := HR4.out.set5 0 0 0 0 0
          clear q0 q1 q2 q3 q4
          have q0 := HI.c0; have q1 := HI.c1; have q2 := HI.c2; have q3 := HI.c3; have q4 := HI.c4; refine bodyPost_ret (v := .tuple #[.agg #[.int .i64 0, .int .i64 0, .int .i64 0, .int .i64 0, .int .i64 0], .int .i64 111]) (by simp [results, Tryz.results40, go_sem, q0, q1, q2, q3, q4]) rfl ⟨(by rw [HX2.out]; rfl), (bel5 HBW4.out HRR.out)⟩
        · obtain ⟨sec, hsec⟩ : ∃ sec : Nat, idxL wNm x1.data.toList = some sec := by
            cases hq : idxL wNm x1.data.toList with
            | none => exact absurd (by have h := HSC.out; rw [hq] at h; exact h.symm) hsn
            | some y => exact ⟨y, rfl⟩
          obtain rfl : sc = (sec : Int) := by rw [← HSC.out, hsec]; rfl
          have hs0 : decide ((sec : Int) < 0) = false := decide_eq_false (by omega)
          have HSc : Hid (secOk 3 (tokB s) sec) := Lib.hid ⟨fun _ => (by rw [HX1.out]; exact hsec), fun e => (by cases e)⟩
          clear hsn hsec
          by_cases hc : n = 2 + L
          · have e1 : ((n : Int) != 2 + (kB.size : Int)) = false := by rw [hHL.out, hc]; simp
            have HNn := Lib.hid hc
            have HHL := hHL
            have e2 : (kB.size : Int) ≤ 3 := by rw [hHL.out]; omega
            have HOd : Hid (∀ (k : Nat) (hk : k < kB.size), opdW 3 (tokB s) k = opdO (kB[k]'hk) ((tokB s).getD (2 + k) ⟨#[]⟩).data.toList) := Lib.hid (fun k hk => by
              unfold opdW
              rw [show atV 3 = 2 from rfl, kb_at kB 3 k HKB.out hk])
            have HCl : Hid (∀ k, k < L → w4.cell? ⟨g, 2 + k, none⟩ = some (.string ((tokB s).getD (2 + k) ⟨#[]⟩))) := Lib.hid (fun k hk => by
              have hl : 2 + k < (tokB s).length := by rw [HN.out, HNn.out]; omega
              have := HL4.out.row.cellAt (2 + k) (by rw [HNn.out]; omega)
              rw [this]
              simp [List.getD, hl])
            obtain ⟨v, hvv⟩ : ∃ v : Nat → Nat, v = fun j => (opdW 3 (tokB s) j).getD 0 := ⟨_, rfl⟩
            have HVv := Lib.hid hvv
            have hL3 : L = 3 := HLL.out.symm
            have hnL : (n : Int) ≤ 6 := by omega
            clear hvv hc
            obtain ⟨i0, hi', hz0, hz1, hz2'⟩ := info_parts infoIntR
            have HI := Lib.hid (⟨hi', hz0, hz1, hz2'⟩ : Tryz.prog.info? 3 = some i0 ∧ i0.zero = some (.int .i64 0) ∧ i0.size = 1 ∧ i0.bytes = 8)
            clear hi' hz0 hz1 hz2'
            go_upto_region 20 with fail
            obtain ⟨b0, hb0⟩ : ∃ b0, b0 = w4.heap.size := ⟨_, rfl⟩
            have HB0' : Hid (b0 ≤ w4.heap.size ∧ w4.heap.size ≤ b0) := Lib.hid (by rw [hb0]; exact ⟨Nat.le_refl _, Nat.le_refl _⟩)
            clear hb0
            go_loopw [11, 12] (fun vl j wr => ∃ (k cp2 : Nat) (ad2 : Option Addr), k ≤ L ∧ j = .int .i64 k ∧ vl = .slice ad2 k cp2 ∧ wr.ownsRow b0 3 1 (.slice ad2 k cp2) k ((List.range k).map (fun i => iv (v i))) ∧ Below w4.heap.size w4 wr ∧ (∀ j, j < k → opdW 3 (tokB s) j = some (v j))) (fun _ j _ => L + 1 - (intOf j).toNat)
            case atStart => exact ⟨0, 0, none, by omega, rfl, rfl, World.ownsRow_nil _ _ _ _, Below.refl _ _, fun j hj => by omega⟩
            case round =>
              obtain ⟨k, cp2, ad2, hk, rfl, rfl, hrow, hbr, hvs⟩ := hrel
              have HVs := Lib.hid hvs
              clear hvs
              have HRow := Lib.hid hrow
              have HBr := Lib.hid hbr
              by_cases hkl : k < L
              · have hkL : k < kB.size := by rw [HHL.out]; omega
                obtain ⟨x, hx⟩ : ∃ x, (tokB s).getD (2 + k) ⟨#[]⟩ = x := ⟨_, rfl⟩
                have hxz : x.size ≤ 1000000 := by rw [← hx]; exact Nat.le_trans (tok_size s (2 + k)) (by omega)
                have hcx := HCl.out k (by omega)
                rw [hx] at hcx
                have hcr := (hbr.cell (p := ⟨g, 2 + k, none⟩) HG4.out).trans hcx
                have HOk := Lib.hid (HOd.out k hkL)
                rw [hx] at HOk
                have HK : Hid (k < kB.size) := Lib.hid hkL
                have HKl : Hid (k < L) := Lib.hid hkl
                have hkn : 2 + k < n := by have := HNn.out; have := HHL.out; omega
                clear hrow hx hcx hkl
                have hk9 : k < 3 := by have h1 := HKl.out; have h2 : 3 = L := HLL.out; omega
                rcases (show k = 0 ∨ k = 1 ∨ k = 2 by omega) with rfl | rfl | rfl
                · have a0 : (0 : Int) < (kB.size : Int) := by have := HK.out; omega
                  have an : (2 : Int) < (n : Int) := by omega
                  have ST := Lib.hid (⟨hbr.drew, hcr⟩ : Below w4.heap.size w4 wr.drew ∧ wr.drew.cell? ⟨g, 2, none⟩ = some (.string x))
                  clear hbr hcr
                  cases hq : opdW 3 (tokB s) 0
                  · have HO : Hid (numO (opdO (kB[0]'hkL) x.data.toList) = (0, false)) := Lib.hid (by rw [← HOk.out, hq]; rfl)
                    have hw : IntKind.i64.wrap 2 = 2 := by decide
                    have HX2 : Hid (X = ((0, 0, 0, 0, 0), some 11)) := Lib.hid (by rw [← hX.out]; exact line_bad s 3 (by decide) (by decide) hop.out (by rw [HN.out, HNn.out, HLL.out]; rfl) sec HSc.out v 0 (by decide) HVs.out hq)
                    clear hq hkn
                    go_wp2_with fail
                    go_region_held3 (fun w' => Below w4.heap.size w4 w' ∧ w'.cell? ⟨g, 2, none⟩ = some (.string x)) (first | exact ST.out | exact sgkeep (by assumption) HG4 hb) (first | (go_at_call 37; (with_reducible refine (roperand_is x hxz (kB[0]'hkL) 0 false HO _).mono ?_); rintro e w' ⟨rfl, hb⟩))
                    have hS := Lib.hid (show Below w4.heap.size w4 w' from And.left (by assumption))
                    have HR' := Lib.hid (HR4.out.below hS.out)
                    have q0 := HR'.out.c0
                    have q1 := HR'.out.c1
                    have q2 := HR'.out.c2
                    have q3 := HR'.out.c3
                    have q4 := HR'.out.c4
                    have qf := HR'.out.fz
                    go_wp2_with fail
                    have HI := HR'.out.set5 0 0 0 0 0
                    clear q0 q1 q2 q3 q4
                    have q0 := HI.c0; have q1 := HI.c1; have q2 := HI.c2; have q3 := HI.c3; have q4 := HI.c4; refine bodyPost_ret (v := .tuple #[.agg #[.int .i64 0, .int .i64 0, .int .i64 0, .int .i64 0, .int .i64 0], .int .i64 112]) (by simp [results, Tryz.results40, go_sem, q0, q1, q2, q3, q4]) rfl ⟨(by rw [HX2.out]; rfl), (bel5 (HBW4.out.trans (hS.out.mono HBW4.out.size)) HRR.out)⟩
                  rename_i y
                  obtain rfl : v 0 = y := by rw [HVv.out]; show (opdW 3 (tokB s) _).getD 0 = _; rw [hq]; rfl
                  have HVs2 : Hid (∀ j, j < 1 → opdW 3 (tokB s) j = some (v j)) := Lib.hid (fun j hj => by rcases (show j < 0 ∨ j = 0 by omega) with h | rfl; exact HVs.out j h; exact hq)
                  have HO : Hid (numO (opdO (kB[0]'hkL) x.data.toList) = (((v 0 : Nat) : Int), true)) := Lib.hid (by rw [← HOk.out, hq]; rfl)
                  clear hq
                  have hw : IntKind.i64.wrap 2 = 2 := by decide
                  have HT : Hid ((List.range 0).map (fun i => iv (v i)) ++ [.int .i64 ((v 0 : Nat) : Int)] = (List.range (0 + 1)).map (fun i => iv (v i))) := Lib.hid (by rw [List.range_succ, List.map_append]; rfl)
                  have hki2 : 0 + 1 ≤ L := HKl.out
                  clear hkn
                  go_wp2_with fail
                  go_region_held3 (fun w' => Below w4.heap.size w4 w' ∧ w'.cell? ⟨g, 2, none⟩ = some (.string x)) (first | exact ST.out | exact sgkeep (by assumption) HG4 hb) (first | (go_at_call 37; (with_reducible refine (roperand_is x hxz (kB[0]'hkL) ((v 0 : Nat) : Int) true HO _).mono ?_); rintro e w' ⟨rfl, hb⟩; have HRow2 := Lib.hid (own_keep (own_keep HRow.out ((Below.refl _ _).drew)) hb)))
                  have hS := Lib.hid (show Below w4.heap.size w4 w' from And.left (by assumption))
                  have HSz : Hid (w4.heap.size ≤ w'.heap.size) := Lib.hid hS.out.size
                  have HB00 := Lib.hid (Nat.le_trans HB0'.out.1 HSz.out)
                  go_wp2_with (first | (at_builtin; refine wpList_append_own_at _ rfl _ _ 49 rfl b0 3 i0 (.int .i64 0) 1 8 Tryz.underlying49 HI.out.1 HI.out.2.1 HI.out.2.2.1 HI.out.2.2.2 rfl (by decide) _ 0 _ rfl (HRow2.out.alloc _) ⟨w'.heap.size, 0, none⟩ 1 1 [.int .i64 ((v 0 : Nat) : Int)] rfl rfl (cell_one_new _ _ _) (int_one _) (by unfold maxLen; omega) (by omega) (by have := HB00.out; simp at this ⊢; omega) ?_; intro v2 w5 hrow hg3 hnil hloc))
                  have HW5 := Lib.hid ((hS.out.alloc hS.out.size _).grown hg3 (by have := hS.out.size; simp; omega) (fun g hg => Nat.le_trans HB0'.out.2 (HRow2.out.lt g hg).1))
                  obtain ⟨a3, c3, hv3⟩ := owns_shp hrow
                  subst hv3
                  have hrow2 := hrow
                  rw [HT.out] at hrow2
                  have HR5 := Lib.hid hrow2
                  clear hrow hrow2 hg3 hnil hloc
                  go_roundw
                  case rel => exact ⟨1, c3, a3, hki2, rfl, rfl, HR5.out, HW5.out, HVs2.out⟩
                  case measure => first | (simp [intOf]; done) | (simp [intOf]; omega)
                · have a0 : (1 : Int) < (kB.size : Int) := by have := HK.out; omega
                  have an : (3 : Int) < (n : Int) := by omega
                  have ST := Lib.hid (⟨hbr.drew, hcr⟩ : Below w4.heap.size w4 wr.drew ∧ wr.drew.cell? ⟨g, 3, none⟩ = some (.string x))
                  clear hbr hcr
                  cases hq : opdW 3 (tokB s) 1
                  · have HO : Hid (numO (opdO (kB[1]'hkL) x.data.toList) = (0, false)) := Lib.hid (by rw [← HOk.out, hq]; rfl)
                    have hw : IntKind.i64.wrap 3 = 3 := by decide
                    have HX2 : Hid (X = ((0, 0, 0, 0, 0), some 11)) := Lib.hid (by rw [← hX.out]; exact line_bad s 3 (by decide) (by decide) hop.out (by rw [HN.out, HNn.out, HLL.out]; rfl) sec HSc.out v 1 (by decide) HVs.out hq)
                    clear hq hkn
                    go_wp2_with fail
                    go_region_held3 (fun w' => Below w4.heap.size w4 w' ∧ w'.cell? ⟨g, 3, none⟩ = some (.string x)) (first | exact ST.out | exact sgkeep (by assumption) HG4 hb) (first | (go_at_call 37; (with_reducible refine (roperand_is x hxz (kB[1]'hkL) 0 false HO _).mono ?_); rintro e w' ⟨rfl, hb⟩))
                    have hS := Lib.hid (show Below w4.heap.size w4 w' from And.left (by assumption))
                    have HR' := Lib.hid (HR4.out.below hS.out)
                    have q0 := HR'.out.c0
                    have q1 := HR'.out.c1
                    have q2 := HR'.out.c2
                    have q3 := HR'.out.c3
                    have q4 := HR'.out.c4
                    have qf := HR'.out.fz
                    go_wp2_with fail
                    have HI := HR'.out.set5 0 0 0 0 0
                    clear q0 q1 q2 q3 q4
                    have q0 := HI.c0; have q1 := HI.c1; have q2 := HI.c2; have q3 := HI.c3; have q4 := HI.c4; refine bodyPost_ret (v := .tuple #[.agg #[.int .i64 0, .int .i64 0, .int .i64 0, .int .i64 0, .int .i64 0], .int .i64 112]) (by simp [results, Tryz.results40, go_sem, q0, q1, q2, q3, q4]) rfl ⟨(by rw [HX2.out]; rfl), (bel5 (HBW4.out.trans (hS.out.mono HBW4.out.size)) HRR.out)⟩
                  rename_i y
                  obtain rfl : v 1 = y := by rw [HVv.out]; show (opdW 3 (tokB s) _).getD 0 = _; rw [hq]; rfl
                  have HVs2 : Hid (∀ j, j < 2 → opdW 3 (tokB s) j = some (v j)) := Lib.hid (fun j hj => by rcases (show j < 1 ∨ j = 1 by omega) with h | rfl; exact HVs.out j h; exact hq)
                  have HO : Hid (numO (opdO (kB[1]'hkL) x.data.toList) = (((v 1 : Nat) : Int), true)) := Lib.hid (by rw [← HOk.out, hq]; rfl)
                  clear hq
                  have hw : IntKind.i64.wrap 3 = 3 := by decide
                  have HT : Hid ((List.range 1).map (fun i => iv (v i)) ++ [.int .i64 ((v 1 : Nat) : Int)] = (List.range (1 + 1)).map (fun i => iv (v i))) := Lib.hid (by rw [List.range_succ, List.map_append]; rfl)
                  have hki2 : 1 + 1 ≤ L := HKl.out
                  clear hkn
                  go_wp2_with fail
                  go_region_held3 (fun w' => Below w4.heap.size w4 w' ∧ w'.cell? ⟨g, 3, none⟩ = some (.string x)) (first | exact ST.out | exact sgkeep (by assumption) HG4 hb) (first | (go_at_call 37; (with_reducible refine (roperand_is x hxz (kB[1]'hkL) ((v 1 : Nat) : Int) true HO _).mono ?_); rintro e w' ⟨rfl, hb⟩; have HRow2 := Lib.hid (own_keep (own_keep HRow.out ((Below.refl _ _).drew)) hb)))
                  have hS := Lib.hid (show Below w4.heap.size w4 w' from And.left (by assumption))
                  have HSz : Hid (w4.heap.size ≤ w'.heap.size) := Lib.hid hS.out.size
                  have HB00 := Lib.hid (Nat.le_trans HB0'.out.1 HSz.out)
                  go_wp2_with (first | (at_builtin; refine wpList_append_own_at _ rfl _ _ 49 rfl b0 3 i0 (.int .i64 0) 1 8 Tryz.underlying49 HI.out.1 HI.out.2.1 HI.out.2.2.1 HI.out.2.2.2 rfl (by decide) _ 1 _ rfl (HRow2.out.alloc _) ⟨w'.heap.size, 0, none⟩ 1 1 [.int .i64 ((v 1 : Nat) : Int)] rfl rfl (cell_one_new _ _ _) (int_one _) (by unfold maxLen; omega) (by omega) (by have := HB00.out; simp at this ⊢; omega) ?_; intro v2 w5 hrow hg3 hnil hloc))
                  have HW5 := Lib.hid ((hS.out.alloc hS.out.size _).grown hg3 (by have := hS.out.size; simp; omega) (fun g hg => Nat.le_trans HB0'.out.2 (HRow2.out.lt g hg).1))
                  obtain ⟨a3, c3, hv3⟩ := owns_shp hrow
                  subst hv3
                  have hrow2 := hrow
                  rw [HT.out] at hrow2
                  have HR5 := Lib.hid hrow2
                  clear hrow hrow2 hg3 hnil hloc
                  go_roundw
                  case rel => exact ⟨2, c3, a3, hki2, rfl, rfl, HR5.out, HW5.out, HVs2.out⟩
                  case measure => first | (simp [intOf]; done) | (simp [intOf]; omega)
                · have a0 : (2 : Int) < (kB.size : Int) := by have := HK.out; omega
                  have an : (4 : Int) < (n : Int) := by omega
                  have ST := Lib.hid (⟨hbr.drew, hcr⟩ : Below w4.heap.size w4 wr.drew ∧ wr.drew.cell? ⟨g, 4, none⟩ = some (.string x))
                  clear hbr hcr
                  cases hq : opdW 3 (tokB s) 2
                  · have HO : Hid (numO (opdO (kB[2]'hkL) x.data.toList) = (0, false)) := Lib.hid (by rw [← HOk.out, hq]; rfl)
                    have hw : IntKind.i64.wrap 4 = 4 := by decide
                    have HX2 : Hid (X = ((0, 0, 0, 0, 0), some 11)) := Lib.hid (by rw [← hX.out]; exact line_bad s 3 (by decide) (by decide) hop.out (by rw [HN.out, HNn.out, HLL.out]; rfl) sec HSc.out v 2 (by decide) HVs.out hq)
                    clear hq hkn
                    go_wp2_with fail
                    go_region_held3 (fun w' => Below w4.heap.size w4 w' ∧ w'.cell? ⟨g, 4, none⟩ = some (.string x)) (first | exact ST.out | exact sgkeep (by assumption) HG4 hb) (first | (go_at_call 37; (with_reducible refine (roperand_is x hxz (kB[2]'hkL) 0 false HO _).mono ?_); rintro e w' ⟨rfl, hb⟩))
                    have hS := Lib.hid (show Below w4.heap.size w4 w' from And.left (by assumption))
                    have HR' := Lib.hid (HR4.out.below hS.out)
                    have q0 := HR'.out.c0
                    have q1 := HR'.out.c1
                    have q2 := HR'.out.c2
                    have q3 := HR'.out.c3
                    have q4 := HR'.out.c4
                    have qf := HR'.out.fz
                    go_wp2_with fail
                    have HI := HR'.out.set5 0 0 0 0 0
                    clear q0 q1 q2 q3 q4
                    have q0 := HI.c0; have q1 := HI.c1; have q2 := HI.c2; have q3 := HI.c3; have q4 := HI.c4; refine bodyPost_ret (v := .tuple #[.agg #[.int .i64 0, .int .i64 0, .int .i64 0, .int .i64 0, .int .i64 0], .int .i64 112]) (by simp [results, Tryz.results40, go_sem, q0, q1, q2, q3, q4]) rfl ⟨(by rw [HX2.out]; rfl), (bel5 (HBW4.out.trans (hS.out.mono HBW4.out.size)) HRR.out)⟩
                  rename_i y
                  obtain rfl : v 2 = y := by rw [HVv.out]; show (opdW 3 (tokB s) _).getD 0 = _; rw [hq]; rfl
                  have HVs2 : Hid (∀ j, j < 3 → opdW 3 (tokB s) j = some (v j)) := Lib.hid (fun j hj => by rcases (show j < 2 ∨ j = 2 by omega) with h | rfl; exact HVs.out j h; exact hq)
                  have HO : Hid (numO (opdO (kB[2]'hkL) x.data.toList) = (((v 2 : Nat) : Int), true)) := Lib.hid (by rw [← HOk.out, hq]; rfl)
                  clear hq
                  have hw : IntKind.i64.wrap 4 = 4 := by decide
                  have HT : Hid ((List.range 2).map (fun i => iv (v i)) ++ [.int .i64 ((v 2 : Nat) : Int)] = (List.range (2 + 1)).map (fun i => iv (v i))) := Lib.hid (by rw [List.range_succ, List.map_append]; rfl)
                  have hki2 : 2 + 1 ≤ L := HKl.out
                  clear hkn
                  go_wp2_with fail
                  go_region_held3 (fun w' => Below w4.heap.size w4 w' ∧ w'.cell? ⟨g, 4, none⟩ = some (.string x)) (first | exact ST.out | exact sgkeep (by assumption) HG4 hb) (first | (go_at_call 37; (with_reducible refine (roperand_is x hxz (kB[2]'hkL) ((v 2 : Nat) : Int) true HO _).mono ?_); rintro e w' ⟨rfl, hb⟩; have HRow2 := Lib.hid (own_keep (own_keep HRow.out ((Below.refl _ _).drew)) hb)))
                  have hS := Lib.hid (show Below w4.heap.size w4 w' from And.left (by assumption))
                  have HSz : Hid (w4.heap.size ≤ w'.heap.size) := Lib.hid hS.out.size
                  have HB00 := Lib.hid (Nat.le_trans HB0'.out.1 HSz.out)
                  go_wp2_with (first | (at_builtin; refine wpList_append_own_at _ rfl _ _ 49 rfl b0 3 i0 (.int .i64 0) 1 8 Tryz.underlying49 HI.out.1 HI.out.2.1 HI.out.2.2.1 HI.out.2.2.2 rfl (by decide) _ 2 _ rfl (HRow2.out.alloc _) ⟨w'.heap.size, 0, none⟩ 1 1 [.int .i64 ((v 2 : Nat) : Int)] rfl rfl (cell_one_new _ _ _) (int_one _) (by unfold maxLen; omega) (by omega) (by have := HB00.out; simp at this ⊢; omega) ?_; intro v2 w5 hrow hg3 hnil hloc))
                  have HW5 := Lib.hid ((hS.out.alloc hS.out.size _).grown hg3 (by have := hS.out.size; simp; omega) (fun g hg => Nat.le_trans HB0'.out.2 (HRow2.out.lt g hg).1))
                  obtain ⟨a3, c3, hv3⟩ := owns_shp hrow
                  subst hv3
                  have hrow2 := hrow
                  rw [HT.out] at hrow2
                  have HR5 := Lib.hid hrow2
                  clear hrow hrow2 hg3 hnil hloc
                  go_roundw
                  case rel => exact ⟨3, c3, a3, hki2, rfl, rfl, HR5.out, HW5.out, HVs2.out⟩
                  case measure => first | (simp [intOf]; done) | (simp [intOf]; omega)
              · obtain rfl : k = L := by omega
                have hdd : decide (k < kB.size) = false := by rw [HHL.out]; simp
                have hdi : decide ((k : Int) < (kB.size : Int)) = false := by rw [HHL.out]; simp
                clear hbr hkl
                go_upto_region 26 with fail
                clear hdd hdi
                have hXl := Lib.hid ((line_good s 3 (by decide) (by decide) hop.out (by rw [HN.out, HNn.out, HLL.out]; rfl) sec HSc.out v (fun j hj => HVs.out j (by rw [← HLL.out]; exact hj))).symm.trans hX.out)
                clear hX
                have hX := hXl
                obtain rfl : k = 3 := by rw [← HLL.out]; rfl
                obtain ⟨g2, hg2⟩ := own_some hrow (by decide)
                subst hg2
                have hJg : Hid (g2 ≠ J) := Lib.hid (fun e => by have h1 := (hrow.lt g2 rfl).1; have h2 := HB0'.out.2; have h3 := HJ4.out.lt; omega)
                have c0 : wr.cell? ⟨g2, 0, none⟩ = some (.int .i64 ((v 0 : Nat) : Int)) := hrow.cellAt 0 (by decide)
                have c1 : wr.cell? ⟨g2, 1, none⟩ = some (.int .i64 ((v 1 : Nat) : Int)) := hrow.cellAt 1 (by decide)
                have c2 : wr.cell? ⟨g2, 2, none⟩ = some (.int .i64 ((v 2 : Nat) : Int)) := hrow.cellAt 2 (by decide)
                have HJ_0 : Hid (I5 wr J 3 0 0 0 0) := Lib.hid (HJ4.out.below HBr.out)
                have HR_0 := Lib.hid (HR4.out.below HBr.out)
                have HB_0 := Lib.hid (HBW4.out.trans (HBr.out.mono HBW4.out.size))
                have r0 := HJ_0.out.c0
                have r1 := HJ_0.out.c1
                have r2 := HJ_0.out.c2
                have r3 := HJ_0.out.c3
                have r4 := HJ_0.out.c4
                have rf := HJ_0.out.fz
                clear hrow
                go_upto_region 34 with fail
                generalize hA : World.setCell wr _ _ = wA0
                have HJ_1 : Hid (I5 wA0 J 3 ((v 0 : Nat) : Int) 0 0 0) := Lib.hid (by rw [← hA]; exact HJ_0.out.put.2.1 _)
                have HR_1 := Lib.hid (HR_0.out.far HRJ.out.1 (i := 1) (v := .int .i64 ((v 0 : Nat) : Int)))
                have HB_1 : Hid (Below w.heap.size w wA0) := Lib.hid (by rw [← hA]; exact HB_0.out.setCell HRJ.out.2 _)
                rw [hA] at HR_1
                replace c0 : wA0.cell? ⟨g2, 0, none⟩ = some (.int .i64 ((v 0 : Nat) : Int)) := by rw [← hA]; exact (sc_far hJg.out).trans c0
                replace c1 : wA0.cell? ⟨g2, 1, none⟩ = some (.int .i64 ((v 1 : Nat) : Int)) := by rw [← hA]; exact (sc_far hJg.out).trans c1
                replace c2 : wA0.cell? ⟨g2, 2, none⟩ = some (.int .i64 ((v 2 : Nat) : Int)) := by rw [← hA]; exact (sc_far hJg.out).trans c2
                clear r0 r1 r2 r3 r4 rf hA
                have r0 := HJ_1.out.c0
                have r1 := HJ_1.out.c1
                have r2 := HJ_1.out.c2
                have r3 := HJ_1.out.c3
                have r4 := HJ_1.out.c4
                have rf := HJ_1.out.fz
                go_upto_region 35 with fail
                generalize hA : World.setCell wA0 _ _ = wA1
                have HJ_2 : Hid (I5 wA1 J 3 ((v 0 : Nat) : Int) ((v 1 : Nat) : Int) 0 0) := Lib.hid (by rw [← hA]; exact HJ_1.out.put.2.2.1 _)
                have HR_2 := Lib.hid (HR_1.out.far HRJ.out.1 (i := 2) (v := .int .i64 ((v 1 : Nat) : Int)))
                have HB_2 : Hid (Below w.heap.size w wA1) := Lib.hid (by rw [← hA]; exact HB_1.out.setCell HRJ.out.2 _)
                rw [hA] at HR_2
                replace c0 : wA1.cell? ⟨g2, 0, none⟩ = some (.int .i64 ((v 0 : Nat) : Int)) := by rw [← hA]; exact (sc_far hJg.out).trans c0
                replace c1 : wA1.cell? ⟨g2, 1, none⟩ = some (.int .i64 ((v 1 : Nat) : Int)) := by rw [← hA]; exact (sc_far hJg.out).trans c1
                replace c2 : wA1.cell? ⟨g2, 2, none⟩ = some (.int .i64 ((v 2 : Nat) : Int)) := by rw [← hA]; exact (sc_far hJg.out).trans c2
                clear r0 r1 r2 r3 r4 rf hA
                have r0 := HJ_2.out.c0
                have r1 := HJ_2.out.c1
                have r2 := HJ_2.out.c2
                have r3 := HJ_2.out.c3
                have r4 := HJ_2.out.c4
                have rf := HJ_2.out.fz
                go_upto_region 36 with fail
                generalize hA : World.setCell wA1 _ _ = wA2
                have HJ_3 : Hid (I5 wA2 J 3 ((v 0 : Nat) : Int) ((v 1 : Nat) : Int) ((v 2 : Nat) : Int) 0) := Lib.hid (by rw [← hA]; exact HJ_2.out.put.2.2.2.1 _)
                have HR_3 := Lib.hid (HR_2.out.far HRJ.out.1 (i := 3) (v := .int .i64 ((v 2 : Nat) : Int)))
                have HB_3 : Hid (Below w.heap.size w wA2) := Lib.hid (by rw [← hA]; exact HB_2.out.setCell HRJ.out.2 _)
                rw [hA] at HR_3
                replace c0 : wA2.cell? ⟨g2, 0, none⟩ = some (.int .i64 ((v 0 : Nat) : Int)) := by rw [← hA]; exact (sc_far hJg.out).trans c0
                replace c1 : wA2.cell? ⟨g2, 1, none⟩ = some (.int .i64 ((v 1 : Nat) : Int)) := by rw [← hA]; exact (sc_far hJg.out).trans c1
                replace c2 : wA2.cell? ⟨g2, 2, none⟩ = some (.int .i64 ((v 2 : Nat) : Int)) := by rw [← hA]; exact (sc_far hJg.out).trans c2
                clear r0 r1 r2 r3 r4 rf hA
                have r0 := HJ_3.out.c0
                have r1 := HJ_3.out.c1
                have r2 := HJ_3.out.c2
                have r3 := HJ_3.out.c3
                have r4 := HJ_3.out.c4
                have rf := HJ_3.out.fz
                go_upto_region 53 with fail
                generalize hA : World.setCell wA2 _ _ = wA3
                have HJ_4 : Hid (I5 wA3 J 3 ((v 0 : Nat) : Int) ((v 1 : Nat) : Int) ((v 2 : Nat) : Int) ((sec : Nat) : Int)) := Lib.hid (by rw [← hA]; exact HJ_3.out.put.2.2.2.2 _)
                have HR_4 := Lib.hid (HR_3.out.far HRJ.out.1 (i := 4) (v := .int .i64 ((sec : Nat) : Int)))
                have HB_4 : Hid (Below w.heap.size w wA3) := Lib.hid (by rw [← hA]; exact HB_3.out.setCell HRJ.out.2 _)
                rw [hA] at HR_4
                replace c0 : wA3.cell? ⟨g2, 0, none⟩ = some (.int .i64 ((v 0 : Nat) : Int)) := by rw [← hA]; exact (sc_far hJg.out).trans c0
                replace c1 : wA3.cell? ⟨g2, 1, none⟩ = some (.int .i64 ((v 1 : Nat) : Int)) := by rw [← hA]; exact (sc_far hJg.out).trans c1
                replace c2 : wA3.cell? ⟨g2, 2, none⟩ = some (.int .i64 ((v 2 : Nat) : Int)) := by rw [← hA]; exact (sc_far hJg.out).trans c2
                clear r0 r1 r2 r3 r4 rf hA
                have r0 := HJ_4.out.c0
                have r1 := HJ_4.out.c1
                have r2 := HJ_4.out.c2
                have r3 := HJ_4.out.c3
                have r4 := HJ_4.out.c4
                have rf := HJ_4.out.fz
                clear c0 c1 c2
                by_cases hok : okB 3 ((v 0 : Nat) : Int) ((v 1 : Nat) : Int) ((v 2 : Nat) : Int) ((sec : Nat) : Int) = true
                · have HVI : Hid (∀ W, Calls Tryz.prog 38 #[.agg #[.int .i64 3, .int .i64 ((v 0 : Nat) : Int), .int .i64 ((v 1 : Nat) : Int), .int .i64 ((v 2 : Nat) : Int), .int .i64 ((sec : Nat) : Int)]] W fun e w' => e = .returned (.int .i64 0) ∧ Below W.heap.size W w') := Lib.hid (fun W => vi_is 3 ((v 0 : Nat) : Int) ((v 1 : Nat) : Int) ((v 2 : Nat) : Int) ((sec : Nat) : Int) 0 (Lib.hid (codeI_ok hok)) W)
                  have HX2 : Hid (X = ((3, ((v 0 : Nat) : Int), ((v 1 : Nat) : Int), ((v 2 : Nat) : Int), ((sec : Nat) : Int)), none)) := Lib.hid (by rw [← hX.out]; show (if okB 3 ((v 0 : Nat) : Int) ((v 1 : Nat) : Int) ((v 2 : Nat) : Int) ((sec : Nat) : Int) = true then _ else _) = _; rw [if_pos hok]; rfl)
                  clear hok
                  go_upto_region 54 with (first | (go_at_call 38; (with_reducible refine (HVI.out _).mono ?_); rintro e w5 ⟨rfl, hb5⟩; have HJ9 := Lib.hid (HJ_4.out.below hb5); have HR9 := Lib.hid (HR_4.out.below hb5); have HB9 := Lib.hid (HB_4.out.trans (hb5.mono HB_4.out.size))))
                  clear r0 r1 r2 r3 r4 rf hb5
                  have r0 := HJ9.out.c0
                  have r1 := HJ9.out.c1
                  have r2 := HJ9.out.c2
                  have r3 := HJ9.out.c3
                  have r4 := HJ9.out.c4
                  have q0 := HR9.out.c0
                  have q1 := HR9.out.c1
                  have q2 := HR9.out.c2
                  have q3 := HR9.out.c3
                  have q4 := HR9.out.c4
                  have qf := HR9.out.fz
                  go_wp2_with fail
                  have HI := HR9.out.set5 3 ((v 0 : Nat) : Int) ((v 1 : Nat) : Int) ((v 2 : Nat) : Int) ((sec : Nat) : Int)
                  clear q0 q1 q2 q3 q4
                  have q0 := HI.c0; have q1 := HI.c1; have q2 := HI.c2; have q3 := HI.c3; have q4 := HI.c4; refine bodyPost_ret (v := .tuple #[.agg #[.int .i64 3, .int .i64 ((v 0 : Nat) : Int), .int .i64 ((v 1 : Nat) : Int), .int .i64 ((v 2 : Nat) : Int), .int .i64 ((sec : Nat) : Int)], .int .i64 0]) (by simp [results, Tryz.results40, go_sem, q0, q1, q2, q3, q4]) rfl ⟨(by rw [HX2.out]; rfl), (bel5 HB9.out HRR.out)⟩
                · have HVI : Hid (∀ W, Calls Tryz.prog 38 #[.agg #[.int .i64 3, .int .i64 ((v 0 : Nat) : Int), .int .i64 ((v 1 : Nat) : Int), .int .i64 ((v 2 : Nat) : Int), .int .i64 ((sec : Nat) : Int)]] W fun e w' => e = .returned (.int .i64 103) ∧ Below W.heap.size W w') := Lib.hid (fun W => vi_is 3 ((v 0 : Nat) : Int) ((v 1 : Nat) : Int) ((v 2 : Nat) : Int) ((sec : Nat) : Int) 103 (Lib.hid (codeI_no (by simpa using hok) (by decide))) W)
                  have HX2 : Hid (X = ((0, 0, 0, 0, 0), some 2)) := Lib.hid (by rw [← hX.out]; show (if okB 3 ((v 0 : Nat) : Int) ((v 1 : Nat) : Int) ((v 2 : Nat) : Int) ((sec : Nat) : Int) = true then _ else _) = _; rw [if_neg hok])
                  clear hok
                  go_upto_region 54 with (first | (go_at_call 38; (with_reducible refine (HVI.out _).mono ?_); rintro e w5 ⟨rfl, hb5⟩; have HJ9 := Lib.hid (HJ_4.out.below hb5); have HR9 := Lib.hid (HR_4.out.below hb5); have HB9 := Lib.hid (HB_4.out.trans (hb5.mono HB_4.out.size))))
                  clear r0 r1 r2 r3 r4 rf hb5
                  have r0 := HJ9.out.c0
                  have r1 := HJ9.out.c1
                  have r2 := HJ9.out.c2
                  have r3 := HJ9.out.c3
                  have r4 := HJ9.out.c4
                  have q0 := HR9.out.c0
                  have q1 := HR9.out.c1
                  have q2 := HR9.out.c2
                  have q3 := HR9.out.c3
                  have q4 := HR9.out.c4
                  have qf := HR9.out.fz
                  go_wp2_with fail
                  have HI := HR9.out.set5 0 0 0 0 0
                  clear q0 q1 q2 q3 q4
                  have q0 := HI.c0; have q1 := HI.c1; have q2 := HI.c2; have q3 := HI.c3; have q4 := HI.c4; refine bodyPost_ret (v := .tuple #[.agg #[.int .i64 0, .int .i64 0, .int .i64 0, .int .i64 0, .int .i64 0], .int .i64 103]) (by simp [results, Tryz.results40, go_sem, q0, q1, q2, q3, q4]) rfl ⟨(by rw [HX2.out]; rfl), (bel5 HB9.out HRR.out)⟩
          · have e1 : ((n : Int) != 2 + (kB.size : Int)) = true := by rw [hHL.out, bne_iff_ne]; omega
            have HX2 : Hid (X = ((0, 0, 0, 0, 0), some 10)) := Lib.hid (by rw [← hX.out]; exact line_word s 3 hop.out (.inr (by rw [HN.out]; have h := HLL.out; replace h : 3 = L := h; show n ≠ 5; omega)))
            clear hc; have e2 : (kB.size : Int) ≤ 3 := by rw [hHL.out]; omega
            have q0 := HR4.out.c0
            have q1 := HR4.out.c1
            have q2 := HR4.out.c2
            have q3 := HR4.out.c3
            have q4 := HR4.out.c4
            have qf := HR4.out.fz
            go_wp2_with fail
            have HI := HR4.out.set5 0 0 0 0 0
            clear q0 q1 q2 q3 q4
            have q0 := HI.c0; have q1 := HI.c1; have q2 := HI.c2; have q3 := HI.c3; have q4 := HI.c4; refine bodyPost_ret (v := .tuple #[.agg #[.int .i64 0, .int .i64 0, .int .i64 0, .int .i64 0, .int .i64 0], .int .i64 111]) (by simp [results, Tryz.results40, go_sem, q0, q1, q2, q3, q4]) rfl ⟨(by rw [HX2.out]; rfl), (bel5 HBW4.out HRR.out)⟩
      · have hlt : k < 12 := by omega
        have hd12 : decide ((k : Int) < 12) = true := decide_eq_true (by omega)
        have ki : (k : Int) < 12 := by omega
        have k0 : (0 : Int) ≤ (k : Int) := by omega
        have hcx := (hbr.cell (p := ⟨g, 1, none⟩) HG3.out).trans (HC1.out hn3)
        have ST := Lib.hid (⟨hbr.drew, hcx⟩ : Below w3.heap.size w3 wr.drew ∧ wr.drew.cell? ⟨g, 1, none⟩ = some (.string x1))
        obtain ⟨y, hy⟩ : ∃ y, wB k = y := ⟨_, rfl⟩
        have HY := Lib.hid hy
        have ni : (1 : Int) < (n : Int) := by omega
        have HNm : Hid (∀ W, Calls Tryz.prog 48 #[.int .i64 (k : Int)] W fun e w' => e = .returned (.string y) ∧ Below W.heap.size W w') := Lib.hid (fun W => ropname_is k hlt y HY W)
        clear hbr h1k hcx hk hk12
        by_cases hxy : y = x1
        · have he : (y.toList == x1.toList) = true := by rw [hxy]; simp
          have HS : Hid (secF wB x1 (k + 1) = (k : Int)) := Lib.hid (by rw [secF, HY.out, if_pos hxy])
          clear hxy hy
          go_upto_region 14 with fail
          refine wp_region_noPanic ?_
          refine wp_region_held_drew (S := fun w' => Below w3.heap.size w3 w' ∧ w'.cell? ⟨g, 1, none⟩ = some (.string x1)) (by kernel_rfl) ST.out (fun hHeld => ?_)
          refine wpAnyH_take (i := 0) (v := ?_) (by rfl) (by kernel_rfl) (by kernel_rfl) (by kernel_rfl) (fun _ _ _ h => h) (Or.inl ⟨by kernel_rfl, ?_⟩) (by assumption) ?_; rotate_left 1; (focus (intro w hSw; (try dsimp only at hSw); simp only [List.getElem_toArray, List.getElem_cons_succ, List.getElem_cons_zero]; all_goals (try go_simp); all_goals (try with_reducible rfl); all_goals (try rfl))); (try simp only [Act.put, List.getElem_toArray, List.getElem_cons_succ, List.getElem_cons_zero, List.setIfInBounds_toArray, List.set_cons_zero, List.set_cons_succ])
          refine wpAnyH_take (i := 1) (v := ?_) (by rfl) (by kernel_rfl) (by kernel_rfl) (by kernel_rfl) (fun _ _ _ h => h) (Or.inl ⟨by kernel_rfl, ?_⟩) (by assumption) ?_; rotate_left 1; (focus (intro w hSw; (try dsimp only at hSw); simp only [List.getElem_toArray, List.getElem_cons_succ, List.getElem_cons_zero]; all_goals (try go_simp); all_goals (try with_reducible rfl); all_goals (try rfl))); (try simp only [Act.put, List.getElem_toArray, List.getElem_cons_succ, List.getElem_cons_zero, List.setIfInBounds_toArray, List.set_cons_zero, List.set_cons_succ])
          refine wpAnyH_take (i := 2) (v := ?_) (by rfl) (by kernel_rfl) (by kernel_rfl) (by kernel_rfl) (fun _ _ _ h => h) (Or.inl ⟨by kernel_rfl, ?_⟩) (by assumption) ?_; rotate_left 1; (focus (intro w hSw; (try dsimp only at hSw); simp only [List.getElem_toArray, List.getElem_cons_succ, List.getElem_cons_zero]; all_goals (try go_simp); all_goals (try with_reducible rfl); all_goals (try rfl))); (try simp only [Act.put, List.getElem_toArray, List.getElem_cons_succ, List.getElem_cons_zero, List.setIfInBounds_toArray, List.set_cons_zero, List.set_cons_succ])
          refine wpAnyH_take (i := 3) (v := ?_) (by rfl) (by kernel_rfl) (by kernel_rfl) (by kernel_rfl) (fun _ _ _ h => h) (Or.inl ⟨by kernel_rfl, ?_⟩) (by assumption) ?_; rotate_left 1; (focus (intro w hSw; (try dsimp only at hSw); simp only [List.getElem_toArray, List.getElem_cons_succ, List.getElem_cons_zero]; all_goals (try go_simp); all_goals (try with_reducible rfl); all_goals (try rfl))); (try simp only [Act.put, List.getElem_toArray, List.getElem_cons_succ, List.getElem_cons_zero, List.setIfInBounds_toArray, List.set_cons_zero, List.set_cons_succ])
          refine wpAnyH_take (i := 5) (v := ?_) (by rfl) (by kernel_rfl) (by kernel_rfl) (by kernel_rfl) (fun _ _ _ h => h) (Or.inl ⟨by kernel_rfl, ?_⟩) (by assumption) ?_; rotate_left 1; (focus (intro w hSw; (try dsimp only at hSw); simp only [List.getElem_toArray, List.getElem_cons_succ, List.getElem_cons_zero]; all_goals (try go_simp); all_goals (try with_reducible rfl); all_goals (try rfl))); (try simp only [Act.put, List.getElem_toArray, List.getElem_cons_succ, List.getElem_cons_zero, List.setIfInBounds_toArray, List.set_cons_zero, List.set_cons_succ])
          refine wpAnyH_take (i := 6) (v := ?_) (by rfl) (by kernel_rfl) (by kernel_rfl) (by kernel_rfl) (fun _ _ _ h => h) (Or.inl ⟨by kernel_rfl, ?_⟩) (by assumption) ?_; rotate_left 1; (focus (intro w hSw; (try dsimp only at hSw); simp only [List.getElem_toArray, List.getElem_cons_succ, List.getElem_cons_zero]; all_goals (try go_simp); all_goals (try with_reducible rfl); all_goals (try rfl))); (try simp only [Act.put, List.getElem_toArray, List.getElem_cons_succ, List.getElem_cons_zero, List.setIfInBounds_toArray, List.set_cons_zero, List.set_cons_succ])
          refine wpAnyH_take (i := 7) (v := ?_) (by rfl) (by kernel_rfl) (by kernel_rfl) (by kernel_rfl) (fun _ _ _ h => h) (Or.inl ⟨by kernel_rfl, ?_⟩) (by assumption) ?_; rotate_left 1; (focus (intro w hSw; (try dsimp only at hSw); simp only [List.getElem_toArray, List.getElem_cons_succ, List.getElem_cons_zero]; all_goals (try go_simp); all_goals (try with_reducible rfl); all_goals (try rfl))); (try simp only [Act.put, List.getElem_toArray, List.getElem_cons_succ, List.getElem_cons_zero, List.setIfInBounds_toArray, List.set_cons_zero, List.set_cons_succ])
          refine wpAnyH_ready (rs := [4]) (by kernel_rfl) (by simp) ?_; refine AllReadyH.cons (by rfl) (fun K hK => ?_) AllReadyH.nil; rw [if_pos (by kernel_rfl)]; simp only [List.getElem_toArray, List.getElem_cons_succ, List.getElem_cons_zero]; go_wp2_with (first | (go_at_call 48; (with_reducible refine (HNm.out _).mono ?_); rintro e w' ⟨rfl, hb⟩)); refine hK.out _ _ ?_ (fun hHeld => ?_); (focus (exact sgkeep (by assumption) HG3 hb)); clear hK K hb; try (try simp only [Act.put, List.getElem_toArray, List.getElem_cons_succ, List.getElem_cons_zero, List.setIfInBounds_toArray, List.set_cons_zero, List.set_cons_succ])
          refine wpAnyH_take (i := 8) (v := ?_) (by rfl) (by kernel_rfl) (by kernel_rfl) (by kernel_rfl) (fun _ _ _ h => h) (Or.inl ⟨by kernel_rfl, ?_⟩) (by assumption) ?_; rotate_left 1; (focus (intro w hSw; (try dsimp only at hSw); simp only [List.getElem_toArray, List.getElem_cons_succ, List.getElem_cons_zero]; all_goals (try go_simp); all_goals (try with_reducible rfl); all_goals (try rfl))); (try simp only [Act.put, List.getElem_toArray, List.getElem_cons_succ, List.getElem_cons_zero, List.setIfInBounds_toArray, List.set_cons_zero, List.set_cons_succ])
          refine wpAnyH_take (i := 9) (v := ?_) (by rfl) (by kernel_rfl) (by kernel_rfl) (by kernel_rfl) (fun _ _ _ h => h) (Or.inl ⟨by kernel_rfl, ?_⟩) (by assumption) ?_; rotate_left 1; (focus (intro w hSw; (try dsimp only at hSw); simp only [List.getElem_toArray, List.getElem_cons_succ, List.getElem_cons_zero]; all_goals (try go_simp); all_goals (try with_reducible rfl); all_goals (try rfl))); (try simp only [Act.put, List.getElem_toArray, List.getElem_cons_succ, List.getElem_cons_zero, List.setIfInBounds_toArray, List.set_cons_zero, List.set_cons_succ])
          refine wpAnyH_take (i := 10) (v := ?_) (by rfl) (by kernel_rfl) (by kernel_rfl) (by kernel_rfl) (fun _ _ _ h => h) (Or.inl ⟨by kernel_rfl, ?_⟩) (by assumption) ?_; rotate_left 1; (focus (intro w hSw; (try dsimp only at hSw); simp only [List.getElem_toArray, List.getElem_cons_succ, List.getElem_cons_zero]; all_goals (try go_simp); all_goals (try with_reducible rfl); all_goals (try rfl))); (try simp only [Act.put, List.getElem_toArray, List.getElem_cons_succ, List.getElem_cons_zero, List.setIfInBounds_toArray, List.set_cons_zero, List.set_cons_succ])
          refine wpAnyH_take (i := 11) (v := undef) (by rfl) (by kernel_rfl) (by kernel_rfl) (by kernel_rfl) (fun _ _ _ h => h) (Or.inr ⟨by kernel_rfl, rfl⟩) (by assumption) ?_; (try simp only [Act.put, List.getElem_toArray, List.getElem_cons_succ, List.getElem_cons_zero, List.setIfInBounds_toArray, List.set_cons_zero, List.set_cons_succ])
          refine wpAnyH_take (i := 12) (v := undef) (by rfl) (by kernel_rfl) (by kernel_rfl) (by kernel_rfl) (fun _ _ _ h => h) (Or.inr ⟨by kernel_rfl, rfl⟩) (by assumption) ?_; (try simp only [Act.put, List.getElem_toArray, List.getElem_cons_succ, List.getElem_cons_zero, List.setIfInBounds_toArray, List.set_cons_zero, List.set_cons_succ])
          refine wpAnyH_take (i := 13) (v := undef) (by rfl) (by kernel_rfl) (by kernel_rfl) (by kernel_rfl) (fun _ _ _ h => h) (Or.inr ⟨by kernel_rfl, rfl⟩) (by assumption) ?_; (try simp only [Act.put, List.getElem_toArray, List.getElem_cons_succ, List.getElem_cons_zero, List.setIfInBounds_toArray, List.set_cons_zero, List.set_cons_succ])
          refine wpAnyH_take (i := 14) (v := undef) (by rfl) (by kernel_rfl) (by kernel_rfl) (by kernel_rfl) (fun _ _ _ h => h) (Or.inr ⟨by kernel_rfl, rfl⟩) (by assumption) ?_; (try simp only [Act.put, List.getElem_toArray, List.getElem_cons_succ, List.getElem_cons_zero, List.setIfInBounds_toArray, List.set_cons_zero, List.set_cons_succ])
          refine wpAnyH_take (i := 15) (v := undef) (by rfl) (by kernel_rfl) (by kernel_rfl) (by kernel_rfl) (fun _ _ _ h => h) (Or.inr ⟨by kernel_rfl, rfl⟩) (by assumption) ?_; (try simp only [Act.put, List.getElem_toArray, List.getElem_cons_succ, List.getElem_cons_zero, List.setIfInBounds_toArray, List.set_cons_zero, List.set_cons_succ])
          refine wpAnyH_take (i := 16) (v := undef) (by rfl) (by kernel_rfl) (by kernel_rfl) (by kernel_rfl) (fun _ _ _ h => h) (Or.inr ⟨by kernel_rfl, rfl⟩) (by assumption) ?_; (try simp only [Act.put, List.getElem_toArray, List.getElem_cons_succ, List.getElem_cons_zero, List.setIfInBounds_toArray, List.set_cons_zero, List.set_cons_succ])
          refine wpAnyH_take (i := 17) (v := undef) (by rfl) (by kernel_rfl) (by kernel_rfl) (by kernel_rfl) (fun _ _ _ h => h) (Or.inr ⟨by kernel_rfl, rfl⟩) (by assumption) ?_; (try simp only [Act.put, List.getElem_toArray, List.getElem_cons_succ, List.getElem_cons_zero, List.setIfInBounds_toArray, List.set_cons_zero, List.set_cons_succ])
          refine wpAnyH_take (i := 18) (v := undef) (by rfl) (by kernel_rfl) (by kernel_rfl) (by kernel_rfl) (fun _ _ _ h => h) (Or.inr ⟨by kernel_rfl, rfl⟩) (by assumption) ?_; (try simp only [Act.put, List.getElem_toArray, List.getElem_cons_succ, List.getElem_cons_zero, List.setIfInBounds_toArray, List.set_cons_zero, List.set_cons_succ])
          refine wpAnyH_take (i := 19) (v := undef) (by rfl) (by kernel_rfl) (by kernel_rfl) (by kernel_rfl) (fun _ _ _ h => h) (Or.inr ⟨by kernel_rfl, rfl⟩) (by assumption) ?_; (try simp only [Act.put, List.getElem_toArray, List.getElem_cons_succ, List.getElem_cons_zero, List.setIfInBounds_toArray, List.set_cons_zero, List.set_cons_succ])
          refine wpAnyH_take (i := 20) (v := undef) (by rfl) (by kernel_rfl) (by kernel_rfl) (by kernel_rfl) (fun _ _ _ h => h) (Or.inr ⟨by kernel_rfl, rfl⟩) (by assumption) ?_; (try simp only [Act.put, List.getElem_toArray, List.getElem_cons_succ, List.getElem_cons_zero, List.setIfInBounds_toArray, List.set_cons_zero, List.set_cons_succ])
          refine wpAnyH_take (i := 21) (v := ?_) (by rfl) (by kernel_rfl) (by kernel_rfl) (by kernel_rfl) (fun _ _ _ h => h) (Or.inl ⟨by kernel_rfl, ?_⟩) (by assumption) ?_; rotate_left 1; (focus (intro w hSw; (try dsimp only at hSw); simp only [List.getElem_toArray, List.getElem_cons_succ, List.getElem_cons_zero]; all_goals (try go_simp); all_goals (try with_reducible rfl); all_goals (try rfl))); (try simp only [Act.put, List.getElem_toArray, List.getElem_cons_succ, List.getElem_cons_zero, List.setIfInBounds_toArray, List.set_cons_zero, List.set_cons_succ])
          refine wpAnyH_done (by kernel_rfl) ?_ _
          refine NoPanic.normal ?_
          have hS := Lib.hid (show Below w3.heap.size w3 _ from And.left (by assumption))
          go_wp2_with fail
          go_roundw
          case rel => exact ⟨k + 1, by omega, by go_num, by rw [HS.out], fun e => absurd e hn2, hS.out⟩
          case measure => simp [intOf]; omega
        · have he : (y.toList == x1.toList) = false := by rw [beq_eq_false_iff_ne]; intro e; rw [Lib.toList_data, Lib.toList_data] at e; exact hxy (ba_ext2 e)
          have HS : Hid (secF wB x1 (k + 1) = secF wB x1 k) := Lib.hid (by rw [secF, HY.out, if_neg hxy])
          clear hxy hy
          go_upto_region 14 with fail
          refine wp_region_noPanic ?_
          refine wp_region_held_drew (S := fun w' => Below w3.heap.size w3 w' ∧ w'.cell? ⟨g, 1, none⟩ = some (.string x1)) (by kernel_rfl) ST.out (fun hHeld => ?_)
          refine wpAnyH_take (i := 0) (v := ?_) (by rfl) (by kernel_rfl) (by kernel_rfl) (by kernel_rfl) (fun _ _ _ h => h) (Or.inl ⟨by kernel_rfl, ?_⟩) (by assumption) ?_; rotate_left 1; (focus (intro w hSw; (try dsimp only at hSw); simp only [List.getElem_toArray, List.getElem_cons_succ, List.getElem_cons_zero]; all_goals (try go_simp); all_goals (try with_reducible rfl); all_goals (try rfl))); (try simp only [Act.put, List.getElem_toArray, List.getElem_cons_succ, List.getElem_cons_zero, List.setIfInBounds_toArray, List.set_cons_zero, List.set_cons_succ])
          refine wpAnyH_take (i := 1) (v := ?_) (by rfl) (by kernel_rfl) (by kernel_rfl) (by kernel_rfl) (fun _ _ _ h => h) (Or.inl ⟨by kernel_rfl, ?_⟩) (by assumption) ?_; rotate_left 1; (focus (intro w hSw; (try dsimp only at hSw); simp only [List.getElem_toArray, List.getElem_cons_succ, List.getElem_cons_zero]; all_goals (try go_simp); all_goals (try with_reducible rfl); all_goals (try rfl))); (try simp only [Act.put, List.getElem_toArray, List.getElem_cons_succ, List.getElem_cons_zero, List.setIfInBounds_toArray, List.set_cons_zero, List.set_cons_succ])
          refine wpAnyH_take (i := 2) (v := ?_) (by rfl) (by kernel_rfl) (by kernel_rfl) (by kernel_rfl) (fun _ _ _ h => h) (Or.inl ⟨by kernel_rfl, ?_⟩) (by assumption) ?_; rotate_left 1; (focus (intro w hSw; (try dsimp only at hSw); simp only [List.getElem_toArray, List.getElem_cons_succ, List.getElem_cons_zero]; all_goals (try go_simp); all_goals (try with_reducible rfl); all_goals (try rfl))); (try simp only [Act.put, List.getElem_toArray, List.getElem_cons_succ, List.getElem_cons_zero, List.setIfInBounds_toArray, List.set_cons_zero, List.set_cons_succ])
          refine wpAnyH_take (i := 3) (v := ?_) (by rfl) (by kernel_rfl) (by kernel_rfl) (by kernel_rfl) (fun _ _ _ h => h) (Or.inl ⟨by kernel_rfl, ?_⟩) (by assumption) ?_; rotate_left 1; (focus (intro w hSw; (try dsimp only at hSw); simp only [List.getElem_toArray, List.getElem_cons_succ, List.getElem_cons_zero]; all_goals (try go_simp); all_goals (try with_reducible rfl); all_goals (try rfl))); (try simp only [Act.put, List.getElem_toArray, List.getElem_cons_succ, List.getElem_cons_zero, List.setIfInBounds_toArray, List.set_cons_zero, List.set_cons_succ])
          refine wpAnyH_take (i := 5) (v := ?_) (by rfl) (by kernel_rfl) (by kernel_rfl) (by kernel_rfl) (fun _ _ _ h => h) (Or.inl ⟨by kernel_rfl, ?_⟩) (by assumption) ?_; rotate_left 1; (focus (intro w hSw; (try dsimp only at hSw); simp only [List.getElem_toArray, List.getElem_cons_succ, List.getElem_cons_zero]; all_goals (try go_simp); all_goals (try with_reducible rfl); all_goals (try rfl))); (try simp only [Act.put, List.getElem_toArray, List.getElem_cons_succ, List.getElem_cons_zero, List.setIfInBounds_toArray, List.set_cons_zero, List.set_cons_succ])
          refine wpAnyH_take (i := 6) (v := ?_) (by rfl) (by kernel_rfl) (by kernel_rfl) (by kernel_rfl) (fun _ _ _ h => h) (Or.inl ⟨by kernel_rfl, ?_⟩) (by assumption) ?_; rotate_left 1; (focus (intro w hSw; (try dsimp only at hSw); simp only [List.getElem_toArray, List.getElem_cons_succ, List.getElem_cons_zero]; all_goals (try go_simp); all_goals (try with_reducible rfl); all_goals (try rfl))); (try simp only [Act.put, List.getElem_toArray, List.getElem_cons_succ, List.getElem_cons_zero, List.setIfInBounds_toArray, List.set_cons_zero, List.set_cons_succ])
          refine wpAnyH_take (i := 7) (v := ?_) (by rfl) (by kernel_rfl) (by kernel_rfl) (by kernel_rfl) (fun _ _ _ h => h) (Or.inl ⟨by kernel_rfl, ?_⟩) (by assumption) ?_; rotate_left 1; (focus (intro w hSw; (try dsimp only at hSw); simp only [List.getElem_toArray, List.getElem_cons_succ, List.getElem_cons_zero]; all_goals (try go_simp); all_goals (try with_reducible rfl); all_goals (try rfl))); (try simp only [Act.put, List.getElem_toArray, List.getElem_cons_succ, List.getElem_cons_zero, List.setIfInBounds_toArray, List.set_cons_zero, List.set_cons_succ])
          refine wpAnyH_ready (rs := [4]) (by kernel_rfl) (by simp) ?_; refine AllReadyH.cons (by rfl) (fun K hK => ?_) AllReadyH.nil; rw [if_pos (by kernel_rfl)]; simp only [List.getElem_toArray, List.getElem_cons_succ, List.getElem_cons_zero]; go_wp2_with (first | (go_at_call 48; (with_reducible refine (HNm.out _).mono ?_); rintro e w' ⟨rfl, hb⟩)); refine hK.out _ _ ?_ (fun hHeld => ?_); (focus (exact sgkeep (by assumption) HG3 hb)); clear hK K hb; try (try simp only [Act.put, List.getElem_toArray, List.getElem_cons_succ, List.getElem_cons_zero, List.setIfInBounds_toArray, List.set_cons_zero, List.set_cons_succ])
          refine wpAnyH_take (i := 8) (v := ?_) (by rfl) (by kernel_rfl) (by kernel_rfl) (by kernel_rfl) (fun _ _ _ h => h) (Or.inl ⟨by kernel_rfl, ?_⟩) (by assumption) ?_; rotate_left 1; (focus (intro w hSw; (try dsimp only at hSw); simp only [List.getElem_toArray, List.getElem_cons_succ, List.getElem_cons_zero]; all_goals (try go_simp); all_goals (try with_reducible rfl); all_goals (try rfl))); (try simp only [Act.put, List.getElem_toArray, List.getElem_cons_succ, List.getElem_cons_zero, List.setIfInBounds_toArray, List.set_cons_zero, List.set_cons_succ])
          refine wpAnyH_take (i := 9) (v := ?_) (by rfl) (by kernel_rfl) (by kernel_rfl) (by kernel_rfl) (fun _ _ _ h => h) (Or.inl ⟨by kernel_rfl, ?_⟩) (by assumption) ?_; rotate_left 1; (focus (intro w hSw; (try dsimp only at hSw); simp only [List.getElem_toArray, List.getElem_cons_succ, List.getElem_cons_zero]; all_goals (try go_simp); all_goals (try with_reducible rfl); all_goals (try rfl))); (try simp only [Act.put, List.getElem_toArray, List.getElem_cons_succ, List.getElem_cons_zero, List.setIfInBounds_toArray, List.set_cons_zero, List.set_cons_succ])
          refine wpAnyH_take (i := 10) (v := ?_) (by rfl) (by kernel_rfl) (by kernel_rfl) (by kernel_rfl) (fun _ _ _ h => h) (Or.inl ⟨by kernel_rfl, ?_⟩) (by assumption) ?_; rotate_left 1; (focus (intro w hSw; (try dsimp only at hSw); simp only [List.getElem_toArray, List.getElem_cons_succ, List.getElem_cons_zero]; all_goals (try go_simp); all_goals (try with_reducible rfl); all_goals (try rfl))); (try simp only [Act.put, List.getElem_toArray, List.getElem_cons_succ, List.getElem_cons_zero, List.setIfInBounds_toArray, List.set_cons_zero, List.set_cons_succ])
          refine wpAnyH_take (i := 11) (v := ?_) (by rfl) (by kernel_rfl) (by kernel_rfl) (by kernel_rfl) (fun _ _ _ h => h) (Or.inl ⟨by kernel_rfl, ?_⟩) (by assumption) ?_; rotate_left 1; (focus (intro w hSw; (try dsimp only at hSw); simp only [List.getElem_toArray, List.getElem_cons_succ, List.getElem_cons_zero]; all_goals (try go_simp); all_goals (try with_reducible rfl); all_goals (try rfl))); (try simp only [Act.put, List.getElem_toArray, List.getElem_cons_succ, List.getElem_cons_zero, List.setIfInBounds_toArray, List.set_cons_zero, List.set_cons_succ])
          refine wpAnyH_take (i := 12) (v := ?_) (by rfl) (by kernel_rfl) (by kernel_rfl) (by kernel_rfl) (fun _ _ _ h => h) (Or.inl ⟨by kernel_rfl, ?_⟩) (by assumption) ?_; rotate_left 1; (focus (intro w hSw; (try dsimp only at hSw); simp only [List.getElem_toArray, List.getElem_cons_succ, List.getElem_cons_zero]; all_goals (try go_simp); all_goals (try with_reducible rfl); all_goals (try rfl))); (try simp only [Act.put, List.getElem_toArray, List.getElem_cons_succ, List.getElem_cons_zero, List.setIfInBounds_toArray, List.set_cons_zero, List.set_cons_succ])
          refine wpAnyH_take (i := 13) (v := ?_) (by rfl) (by kernel_rfl) (by kernel_rfl) (by kernel_rfl) (fun _ _ _ h => h) (Or.inl ⟨by kernel_rfl, ?_⟩) (by assumption) ?_; rotate_left 1; (focus (intro w hSw; (try dsimp only at hSw); simp only [List.getElem_toArray, List.getElem_cons_succ, List.getElem_cons_zero]; all_goals (try go_simp); all_goals (try with_reducible rfl); all_goals (try rfl))); (try simp only [Act.put, List.getElem_toArray, List.getElem_cons_succ, List.getElem_cons_zero, List.setIfInBounds_toArray, List.set_cons_zero, List.set_cons_succ])
          refine wpAnyH_take (i := 14) (v := undef) (by rfl) (by kernel_rfl) (by kernel_rfl) (by kernel_rfl) (fun _ _ _ h => h) (Or.inr ⟨by kernel_rfl, rfl⟩) (by assumption) ?_; (try simp only [Act.put, List.getElem_toArray, List.getElem_cons_succ, List.getElem_cons_zero, List.setIfInBounds_toArray, List.set_cons_zero, List.set_cons_succ])
          refine wpAnyH_take (i := 15) (v := undef) (by rfl) (by kernel_rfl) (by kernel_rfl) (by kernel_rfl) (fun _ _ _ h => h) (Or.inr ⟨by kernel_rfl, rfl⟩) (by assumption) ?_; (try simp only [Act.put, List.getElem_toArray, List.getElem_cons_succ, List.getElem_cons_zero, List.setIfInBounds_toArray, List.set_cons_zero, List.set_cons_succ])
          refine wpAnyH_take (i := 16) (v := undef) (by rfl) (by kernel_rfl) (by kernel_rfl) (by kernel_rfl) (fun _ _ _ h => h) (Or.inr ⟨by kernel_rfl, rfl⟩) (by assumption) ?_; (try simp only [Act.put, List.getElem_toArray, List.getElem_cons_succ, List.getElem_cons_zero, List.setIfInBounds_toArray, List.set_cons_zero, List.set_cons_succ])
          refine wpAnyH_take (i := 17) (v := undef) (by rfl) (by kernel_rfl) (by kernel_rfl) (by kernel_rfl) (fun _ _ _ h => h) (Or.inr ⟨by kernel_rfl, rfl⟩) (by assumption) ?_; (try simp only [Act.put, List.getElem_toArray, List.getElem_cons_succ, List.getElem_cons_zero, List.setIfInBounds_toArray, List.set_cons_zero, List.set_cons_succ])
          refine wpAnyH_take (i := 18) (v := undef) (by rfl) (by kernel_rfl) (by kernel_rfl) (by kernel_rfl) (fun _ _ _ h => h) (Or.inr ⟨by kernel_rfl, rfl⟩) (by assumption) ?_; (try simp only [Act.put, List.getElem_toArray, List.getElem_cons_succ, List.getElem_cons_zero, List.setIfInBounds_toArray, List.set_cons_zero, List.set_cons_succ])
          refine wpAnyH_take (i := 19) (v := undef) (by rfl) (by kernel_rfl) (by kernel_rfl) (by kernel_rfl) (fun _ _ _ h => h) (Or.inr ⟨by kernel_rfl, rfl⟩) (by assumption) ?_; (try simp only [Act.put, List.getElem_toArray, List.getElem_cons_succ, List.getElem_cons_zero, List.setIfInBounds_toArray, List.set_cons_zero, List.set_cons_succ])
          refine wpAnyH_take (i := 20) (v := ?_) (by rfl) (by kernel_rfl) (by kernel_rfl) (by kernel_rfl) (fun _ _ _ h => h) (Or.inl ⟨by kernel_rfl, ?_⟩) (by assumption) ?_; rotate_left 1; (focus (intro w hSw; (try dsimp only at hSw); simp only [List.getElem_toArray, List.getElem_cons_succ, List.getElem_cons_zero]; all_goals (try go_simp); all_goals (try with_reducible rfl); all_goals (try rfl))); (try simp only [Act.put, List.getElem_toArray, List.getElem_cons_succ, List.getElem_cons_zero, List.setIfInBounds_toArray, List.set_cons_zero, List.set_cons_succ])
          refine wpAnyH_take (i := 21) (v := ?_) (by rfl) (by kernel_rfl) (by kernel_rfl) (by kernel_rfl) (fun _ _ _ h => h) (Or.inl ⟨by kernel_rfl, ?_⟩) (by assumption) ?_; rotate_left 1; (focus (intro w hSw; (try dsimp only at hSw); simp only [List.getElem_toArray, List.getElem_cons_succ, List.getElem_cons_zero]; all_goals (try go_simp); all_goals (try with_reducible rfl); all_goals (try rfl))); (try simp only [Act.put, List.getElem_toArray, List.getElem_cons_succ, List.getElem_cons_zero, List.setIfInBounds_toArray, List.set_cons_zero, List.set_cons_succ])
          refine wpAnyH_done (by kernel_rfl) ?_ _
          refine NoPanic.normal ?_
          have hS := Lib.hid (show Below w3.heap.size w3 _ from And.left (by assumption))
          go_wp2_with fail
          go_roundw
          case rel => exact ⟨k + 1, by omega, by go_num, by rw [HS.out], fun e => absurd e hn2, hS.out⟩
          case measure => simp [intOf]; omega
end Go.Proofs.YtaekccgcnlepaaaGreatDoor
