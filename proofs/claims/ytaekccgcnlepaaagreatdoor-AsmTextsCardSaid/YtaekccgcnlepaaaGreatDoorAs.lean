/-
  package asm: operationOf, decimal, nameOf, value.
-/
import Derived.Test.YtaekccgcnlepaaaGreatDoorTx
import Derived.Test.YtaekccgcnlepaaaGreatDoorCodeT
import Derived.Test.YtaekccgcnlepaaaGreatDoorSen
namespace Go.Proofs.YtaekccgcnlepaaaGreatDoor
open Go.ChangeShapes Go.WideShapes Go.ChangeAt Go.RowKit
set_option linter.unusedVariables false
set_option linter.unusedSimpArgs false
/-- What stands behind each first word. -/
def aWd : List (List UInt8) := [[], [114, 110], [114, 110], [111, 114, 114, 114], [110], [114, 110], [114, 114, 110], [114, 114, 110], [107, 107], [107, 114], [114, 107], [109, 107, 107], [], []]
def nmA (k : Nat) : ByteArray := ⟨(fNm.getD k []).toArray⟩
def wdA (k : Nat) : ByteArray := ⟨(aWd.getD k []).toArray⟩
/-- The names of a word's ops. -/
structure WNm (w : World) : Prop where
  wlt : 17 < w.heap.size
  wat : ∀ n, n < 12 → w.cell? ⟨17, n, none⟩ = some (.string ⟨(wNm.getD n []).toArray⟩)
theorem WNm.below {w w' : World} (h : WNm w) (hb : Below w.heap.size w w') : WNm w' :=
  ⟨Nat.lt_of_lt_of_le h.wlt hb.size, fun n hn => (hb.cell (p := ⟨17, n, none⟩) h.wlt).trans (h.wat n hn)⟩
theorem wname2 (n : Nat) (hn : n < 12) (s : ByteArray) (hs : Hid ((⟨(wNm.getD n []).toArray⟩ : ByteArray) = s)) (w : World) (hT : WNm w) : Calls Tryz.prog 67 #[.int .i64 n] w fun e w' => e = .returned (.string s) ∧ w = w' := by
  have hc := hT.wat n hn
  rw [hs.out] at hc
  have b1 : decide ((n : Int) < 0) = false := by rw [decide_eq_false_iff_not]; omega
  have b2 : decide ((12 : Int) ≤ (n : Int)) = false := by rw [decide_eq_false_iff_not]; omega
  clear hT
  go_enter Tryz.func67, Tryz.ntmps67
  go_wp2
  go_ret
  exact ⟨rfl, rfl⟩
/-- The errors that package asm names. -/
structure Sen5 (A : Nat → Addr) (w : World) : Prop where
  c3 : w.cell? ⟨0, 0, none⟩ = some (eV (sA A 3))
  s3 : 0 < w.heap.size
  c4 : w.cell? ⟨10, 0, none⟩ = some (eV (sA A 4))
  s4 : 10 < w.heap.size
  c10 : w.cell? ⟨4, 0, none⟩ = some (eV (sA A 10))
  s10 : 4 < w.heap.size
  c11 : w.cell? ⟨2, 0, none⟩ = some (eV (sA A 11))
  s11 : 2 < w.heap.size
theorem Sen5.below {A : Nat → Addr} {w w' : World} (h : Sen5 A w) (hb : Below w.heap.size w w') : Sen5 A w' :=
  ⟨(hb.cell (p := ⟨0, 0, none⟩) h.s3).trans h.c3, Nat.lt_of_lt_of_le h.s3 hb.size, (hb.cell (p := ⟨10, 0, none⟩) h.s4).trans h.c4, Nat.lt_of_lt_of_le h.s4 hb.size, (hb.cell (p := ⟨4, 0, none⟩) h.s10).trans h.c10, Nat.lt_of_lt_of_le h.s10 hb.size, (hb.cell (p := ⟨2, 0, none⟩) h.s11).trans h.c11, Nat.lt_of_lt_of_le h.s11 hb.size⟩
theorem Sen5.of {A : Nat → Addr} {w : World} (h : Sen A w) : Sen5 A w := ⟨h.c3, h.s3, h.c4, h.s4, h.c10, h.s10, h.c11, h.s11⟩
/-- What package asm reads of the program's own memory. -/
structure AsmAt (A : Nat → Addr) (w : World) : Prop where
  fl : 3 < w.heap.size
  rng : w.rangeAt 3 0 ((List.range 28).map fun j => if j % 2 = 0 then .string (nmA (j / 2)) else .string (wdA (j / 2)))
  ml : 7 < w.heap.size
  mat : ∀ n, n < 3 → w.cell? ⟨7, n, none⟩ = some (.string ⟨(mNm.getD n []).toArray⟩)
  sen : Sen5 A w
  code : CodeAt (errC (sA A 10)) (errC (sA A 2)) w
  tells : WNm w
def formsL : List Value := (List.range 28).map fun j => if j % 2 = 0 then .string (nmA (j / 2)) else .string (wdA (j / 2))
theorem formsL_at (j : Nat) (hj : j < 28) : formsL[j]? = some (if j % 2 = 0 then .string (nmA (j / 2)) else .string (wdA (j / 2))) := by simp [formsL, hj]
section
variable {A : Nat → Addr} {w w' : World}
theorem AsmAt.below (h : AsmAt A w) (hb : Below w.heap.size w w') : AsmAt A w' :=
  ⟨Nat.lt_of_lt_of_le h.fl hb.size, fun j v hv => (hb.cell (p := ⟨3, 0 + j, none⟩) h.fl).trans (h.rng j v hv), Nat.lt_of_lt_of_le h.ml hb.size, fun n hn => (hb.cell (p := ⟨7, n, none⟩) h.ml).trans (h.mat n hn), h.sen.below hb, h.code.below hb, h.tells.below hb⟩
theorem AsmAt.nm (h : AsmAt A w) (k : Nat) (hk : k < 14) : w.cell? ⟨3, k * 2, none⟩ = some (.string (nmA k)) := by
  have := h.rng (k * 2) _ (formsL_at (k * 2) (by omega))
  rw [Nat.zero_add, if_pos (by omega), show k * 2 / 2 = k by omega] at this
  exact this
theorem AsmAt.wd (h : AsmAt A w) (k : Nat) (hk : k < 14) : w.cell? ⟨3, k * 2 + 1, none⟩ = some (.string (wdA k)) := by
  have := h.rng (k * 2 + 1) _ (formsL_at (k * 2 + 1) (by omega))
  rw [Nat.zero_add, if_neg (by omega), show (k * 2 + 1) / 2 = k by omega] at this
  exact this
end
theorem infoForms : (Tryz.prog.info? 104).map (·.size) = some 28 := by kernel_rfl
theorem fload {W : World} (hr : W.rangeAt 3 0 formsL) : (loadVar 104 ⟨3, 0, none⟩).run Tryz.prog W = .ok (.agg formsL.toArray) W :=
  run_loadVar_mid (P := Tryz.prog) W 3 0 104 formsL _ hr Tryz.underlying104 rfl (by rw [show formsL.length = 28 by simp [formsL]]; exact infoForms)
/-- The first of those names that is this one. -/
def idxL (tb : List (List UInt8)) (l : List UInt8) : Option Nat := tb.findIdx? (fun x => decide (x = l))
def opL (l : List UInt8) : Nat := (idxL fNm l).getD 0
def opW (ws : List ByteArray) : Nat := match ws with | [] => 0 | x :: _ => opL x.data.toList
theorem idx_at (tb : List (List UInt8)) (l : List UInt8) (k : Nat) (hk : k < tb.length) (hno : ∀ i, i < k → tb.getD i [] ≠ l) (hyes : tb.getD k [] = l) : idxL tb l = some k := by
  unfold idxL
  rw [List.findIdx?_eq_some_iff_getElem]
  refine ⟨hk, ?_, fun j hj => ?_⟩
  · simp [List.getD, hk] at hyes
    simp [hyes]
  · have := hno j hj
    simp [List.getD, show j < tb.length by omega] at this
    simp [this]
theorem idx_no (tb : List (List UInt8)) (l : List UInt8) (hno : ∀ i, i < tb.length → tb.getD i [] ≠ l) : idxL tb l = none := by
  unfold idxL
  rw [List.findIdx?_eq_none_iff]
  intro x hx
  obtain ⟨i, hi, e⟩ := List.mem_iff_getElem.1 hx
  have := hno i hi
  simp [List.getD, hi, e] at this
  simp [this]
theorem forms_index (k : Nat) (hk : k < 14) (W : World) : (Instr.index 104 (.agg formsL.toArray) (.int .i64 (k : Int))).run Tryz.prog W = .ok (.agg #[.string (nmA k), .string (wdA k)]) W := by
  rcases (show k = 0 ∨ k = 1 ∨ k = 2 ∨ k = 3 ∨ k = 4 ∨ k = 5 ∨ k = 6 ∨ k = 7 ∨ k = 8 ∨ k = 9 ∨ k = 10 ∨ k = 11 ∨ k = 12 ∨ k = 13 by omega) with rfl | rfl | rfl | rfl | rfl | rfl | rfl | rfl | rfl | rfl | rfl | rfl | rfl | rfl
  all_goals kernel_rfl
set_option maxRecDepth 100000 in
set_option maxHeartbeats 2000000 in
theorem opof_is {A : Nat → Addr} (B c n : Nat) (ws : List ByteArray) (hn : Hid (ws.length = n)) (hn1 : n ≤ 1000000) (r : Nat) (hr : Hid (opW ws = r)) (w : World) (hA : AsmAt A w) (h : WsAt w B ws) :
    Calls Tryz.prog 55 #[.slice (some ⟨B, 0, none⟩) n c] w fun e w' => e = .returned (.int .i64 (r : Int)) ∧ Below w.heap.size w w' := by
  cases ws with
  | nil =>
    have h0 : n = 0 := by rw [← hn.out]; rfl
    subst h0
    have HT : Hid (r = 0) := Lib.hid (by rw [← hr.out]; rfl)
    clear h
    go_enter Tryz.func55, Tryz.ntmps55
    go_wp2_with fail
    go_ret
    exact ⟨by rw [HT.out]; rfl, Below.refl _ _⟩
  | cons x rest =>
    have hp : 0 < n := by rw [← hn.out]; simp
    have hp1 : ((n : Int) == 0) = false := by simp; omega
    have hp2 : (0 : Int) < (n : Int) := by omega
    have HW := Lib.hid h
    have HRG : Hid (w.rangeAt 3 0 formsL) := Lib.hid hA.rng
    clear h
    go_enter Tryz.func55, Tryz.ntmps55
    go_upto_region 4 with (refine wpList_load_mid (by rfl) _ _ (by rfl) 3 0 (by rfl) formsL _ HRG.out Tryz.underlying104 rfl (by rw [show formsL.length = 28 by simp [formsL]]; exact infoForms) ?_)
    obtain ⟨aF, haF⟩ : ∃ aF, aF = formsL.toArray := ⟨_, rfl⟩
    rw [← haF]
    have HF := Lib.hid haF
    clear haF
    go_loopw [9] (fun i wr => ∃ k : Nat, k ≤ 14 ∧ i = .int .i64 k ∧ Below w.heap.size w wr ∧ ∀ i, i < k → fNm.getD i [] ≠ x.data.toList) (fun i _ => 14 - (intOf i).toNat)
    case atStart => exact ⟨0, by omega, rfl, Below.refl _ _, fun i hi => by omega⟩
    case round =>
      obtain ⟨k, hk, rfl, hb, hno⟩ := hrel
      have HB := Lib.hid hb
      have HNo := Lib.hid hno
      by_cases hlt : k < 14
      · have hc := (HW.out.below hb).at' 0 (by simp)
        simp only [List.getD_cons_zero] at hc
        have k0 : (0 : Int) ≤ (k : Int) := by omega
        have k1 : (k : Int) < 14 := by omega
        have hix := forms_index k hlt
        rw [← HF.out] at hix
        obtain ⟨nm, hnm⟩ : ∃ nm, nm = nmA k := ⟨_, rfl⟩
        obtain ⟨wd, hwd⟩ : ∃ wd, wd = wdA k := ⟨_, rfl⟩
        rw [← hnm, ← hwd] at hix
        have HNm : Hid (nm.toList = fNm.getD k []) := Lib.hid (by rw [hnm, Lib.toList_data]; rfl)
        have hbox : Below w.heap.size w (wr.alloc (.cells #[.string nm, .string wd] 103)) := hb.alloc hb.size _
        have HB2 := Lib.hid hbox
        have hc2 := (HW.out.below hbox).at' 0 (by simp)
        simp only [List.getD_cons_zero] at hc2
        clear hc hb hno hnm hwd hbox
        by_cases heq : fNm.getD k [] = x.data.toList
        · have e0 : (nm.toList == x.toList) = true := by rw [HNm.out, Lib.toList_data, heq]; simp
          have HR : Hid (r = k) := Lib.hid (by
            rw [← hr.out]
            show (idxL fNm x.data.toList).getD 0 = k
            rw [idx_at fNm x.data.toList k hlt HNo.out heq]
            rfl)
          clear heq
          go_wp2_with fail
          go_quiet (fail)
          go_wp2
          go_ret
          exact ⟨by rw [HR.out]; rfl, below_dN2 HB2.out _⟩
        · have e0 : (nm.toList == x.toList) = false := by rw [HNm.out, Lib.toList_data, beq_eq_false_iff_ne]; exact heq
          have HNo2 : Hid (∀ i, i < k + 1 → fNm.getD i [] ≠ x.data.toList) := Lib.hid (fun i hi => by
            by_cases e : i = k
            · rw [e]; exact heq
            · exact HNo.out i (by omega))
          clear heq
          go_wp2_with fail
          go_quiet (fail)
          go_wp2
          go_roundw
          case rel => exact ⟨k + 1, by omega, by go_num, below_dN2 HB2.out _, HNo2.out⟩
          case measure => simp [intOf]; omega
      · obtain rfl : k = 14 := by omega
        have HR : Hid (r = 0) := Lib.hid (by
          rw [← hr.out]
          show (idxL fNm x.data.toList).getD 0 = 0
          rw [idx_no fNm x.data.toList hno]
          rfl)
        clear hb hno
        go_wp2_with fail
        go_ret
        exact ⟨by rw [HR.out]; rfl, HB.out⟩
end Go.Proofs.YtaekccgcnlepaaaGreatDoor
