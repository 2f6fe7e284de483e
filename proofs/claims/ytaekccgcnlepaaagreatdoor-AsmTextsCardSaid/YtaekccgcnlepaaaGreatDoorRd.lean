/-
  What the reference's AsmLine says, and lineV: plain mathematics.
-/
import Derived.Test.YtaekccgcnlepaaaGreatDoorRc
namespace Go.Proofs.YtaekccgcnlepaaaGreatDoor
open Go.ChangeShapes Go.WideShapes Go.ChangeAt Go.RowKit Go.Maps
set_option linter.unusedVariables false
set_option linter.unusedSimpArgs false
theorem valK_opd (k : UInt8) (hk : k = 110 ∨ k = 114 ∨ k = 107) (l : List UInt8) : valK k l = match opdO k l with | some n => ((n : Int), none) | none => (0, some 11) := by
  rcases hk with rfl | rfl | rfl
  · have e1 : valK 110 l = decS2 l := by unfold valK; rw [if_pos rfl]
    have e2 : opdO 110 l = numL l := by unfold opdO; rw [if_pos rfl]
    rw [e1, e2]
    unfold decS2
    cases numL l <;> rfl
  · have e1 : valK 114 l = regS 114 l := by unfold valK; rw [if_neg (by decide), if_neg (by decide), if_neg (by decide)]
    have e2 : opdO 114 l = if Lib.hasPrefix l [114] = true then numL (Lib.trimPrefix l [114]) else none := by unfold opdO; rw [if_neg (by decide)]
    rw [e1, e2]
    unfold regS
    by_cases hp : Lib.hasPrefix l [114] = true
    · rw [if_pos hp, if_pos hp]
      unfold decS2
      cases numL (Lib.trimPrefix l [114]) <;> rfl
    · rw [if_neg hp, if_neg hp]
  · have e1 : valK 107 l = regS 107 l := by unfold valK; rw [if_neg (by decide), if_neg (by decide), if_neg (by decide)]
    have e2 : opdO 107 l = if Lib.hasPrefix l [107] = true then numL (Lib.trimPrefix l [107]) else none := by unfold opdO; rw [if_neg (by decide)]
    rw [e1, e2]
    unfold regS
    by_cases hp : Lib.hasPrefix l [107] = true
    · rw [if_pos hp, if_pos hp]
      unfold decS2
      cases numL (Lib.trimPrefix l [107]) <;> rfl
    · rw [if_neg hp, if_neg hp]
/-- Where the operands begin. -/
def atV (op : Nat) : Nat := if op = 3 ∨ op = 11 then 2 else 1
/-- The instruction of these operands. -/
def insR (op : Nat) (sec v0 v1 v2 : Int) : Int × Int × Int × Int × Int :=
  if op = 1 ∨ op = 2 ∨ op = 5 then (op, v0, 0, 0, v1)
  else if op = 3 then (op, v0, v1, v2, sec)
  else if op = 4 then (op, 0, 0, 0, v0)
  else if op = 6 ∨ op = 7 then (op, v0, v1, 0, v2)
  else if op = 8 ∨ op = 9 ∨ op = 10 then (op, v0, v1, 0, 0)
  else if op = 11 then (op, sec, v0, v1, 0)
  else (op, 0, 0, 0, 0)
def endR (I : Int × Int × Int × Int × Int) : (Int × Int × Int × Int × Int) × Option Nat := if okB I.1 I.2.1 I.2.2.1 I.2.2.2.1 I.2.2.2.2 = true then (I, none) else ((0, 0, 0, 0, 0), some 2)
theorem run_stop (vv : Nat → Int × Option Nat) (k : UInt8) (ks : List UInt8) (j : Nat) (st : List Int × Int) (x : Int) (e : Nat) (h : vv j = (x, some e)) : runV vv (k :: ks) j st = (st, some e) := by
  rw [runV, h]
theorem ins_stop (op : Nat) (st : List Int × Int) (e : Nat) : insV op (st, some e) = ((0, 0, 0, 0, 0), some e) := rfl
theorem ins_end (op : Nat) (A : List Int) (I : Int) : insV op ((A, I), none) = endR (op, A.getD 0 0, A.getD 1 0, A.getD 2 0, I) := rfl
/-- The values of a line's words behind the first, as asm reads them. -/
def vvW (op : Nat) (ws : List ByteArray) (j : Nat) : Int × Option Nat := valK ((aWd.getD op []).getD j 0) (ws.getD (1 + j) ⟨#[]⟩).data.toList
theorem line_vv (s : ByteArray) (op : Nat) (h : opW (tokB s) = op) : lineV s = parseV op (tokB s).length (vvW op (tokB s)) := by
  unfold lineV
  rw [h]
  rfl
theorem line_word (s : ByteArray) (op : Nat) (h : opW (tokB s) = op) (h2 : op = 0 ∨ (tokB s).length ≠ 1 + (aWd.getD op []).length) : lineV s = ((0, 0, 0, 0, 0), some 10) := by
  rw [line_vv s op h]
  unfold parseV
  rw [if_pos h2]
theorem kd_len : ∀ op : Fin 14, 1 ≤ op.val → 1 + (aWd.getD op.val []).length = atV op.val + (kdL.getD op.val []).length := by decide
/-- A second word that is no op, no manner. -/
theorem line_second (s : ByteArray) (op : Nat) (h : opW (tokB s) = op) (hop : (op = 3 ∧ idxL wNm ((tokB s).getD 1 ⟨#[]⟩).data.toList = none) ∨ (op = 11 ∧ idxL mNm ((tokB s).getD 1 ⟨#[]⟩).data.toList = none)) : lineV s = ((0, 0, 0, 0, 0), some 10) := by
  rw [line_vv s op h]
  unfold parseV
  split
  · rfl
  · rcases hop with ⟨rfl, hi⟩ | ⟨rfl, hi⟩
    · show insV 3 (runV _ [111, 114, 114, 114] 0 ([], 0)) = _
      have hv : vvW 3 (tokB s) 0 = (0, some 10) := by
        show valK 111 _ = _
        unfold valK
        rw [if_neg (by decide), if_pos rfl]
        unfold nmS
        rw [hi]
      rw [run_stop _ _ _ _ _ _ _ hv]; rfl
    · show insV 11 (runV _ [109, 107, 107] 0 ([], 0)) = _
      have hv : vvW 11 (tokB s) 0 = (0, some 10) := by
        show valK 109 _ = _
        unfold valK
        rw [if_neg (by decide), if_neg (by decide), if_pos rfl]
        unfold nmS
        rw [hi]
      rw [run_stop _ _ _ _ _ _ _ hv]; rfl
/-- Operand j of a line. -/
def opdW (op : Nat) (ws : List ByteArray) (j : Nat) : Option Nat := opdO ((kdL.getD op []).getD j 0) (ws.getD (atV op + j) ⟨#[]⟩).data.toList
theorem vv_opd (op : Nat) (ws : List ByteArray) (i j : Nat) (k : UInt8) (hk : k = 110 ∨ k = 114 ∨ k = 107) (h1 : (aWd.getD op []).getD i 0 = k) (h2 : (kdL.getD op []).getD j 0 = k) (h3 : 1 + i = atV op + j) : vvW op ws i = match opdW op ws j with | some n => ((n : Int), none) | none => (0, some 11) := by
  unfold vvW opdW
  rw [h1, h2, h3]
  exact valK_opd k hk _
theorem vv_sec (ws : List ByteArray) (sec : Nat) (h : idxL wNm (ws.getD 1 ⟨#[]⟩).data.toList = some sec) : vvW 3 ws 0 = ((sec : Int), none) := by
  show valK 111 _ = _
  unfold valK
  rw [if_neg (by decide), if_pos rfl]
  unfold nmS
  rw [h]
theorem vv_sec11 (ws : List ByteArray) (sec : Nat) (h : idxL mNm (ws.getD 1 ⟨#[]⟩).data.toList = some sec) : vvW 11 ws 0 = ((sec : Int), none) := by
  show valK 109 _ = _
  unfold valK
  rw [if_neg (by decide), if_neg (by decide), if_pos rfl]
  unfold nmS
  rw [h]
def secOk (op : Nat) (ws : List ByteArray) (sec : Nat) : Prop := (op = 3 → idxL wNm (ws.getD 1 ⟨#[]⟩).data.toList = some sec) ∧ (op = 11 → idxL mNm (ws.getD 1 ⟨#[]⟩).data.toList = some sec)
/-- All operands read. -/
theorem line_good (s : ByteArray) (op : Nat) (h0 : 1 ≤ op) (h13 : op ≤ 13) (h : opW (tokB s) = op) (hl : (tokB s).length = atV op + (kdL.getD op []).length) (sec : Nat) (hs : secOk op (tokB s) sec) (v : Nat → Nat) (hv : ∀ j, j < (kdL.getD op []).length → opdW op (tokB s) j = some (v j)) :
    lineV s = endR (insR op sec (v 0) (v 1) (v 2)) := by
  rw [line_vv s op h]
  have hk := kd_len ⟨op, by omega⟩ h0
  simp only at hk
  unfold parseV
  rw [if_neg (by omega)]
  clear h hl hk
  rcases (show op = 1 ∨ op = 2 ∨ op = 3 ∨ op = 4 ∨ op = 5 ∨ op = 6 ∨ op = 7 ∨ op = 8 ∨ op = 9 ∨ op = 10 ∨ op = 11 ∨ op = 12 ∨ op = 13 by omega) with rfl | rfl | rfl | rfl | rfl | rfl | rfl | rfl | rfl | rfl | rfl | rfl | rfl
  · show insV 1 (runV _ [114, 110] 0 ([], 0)) = _
    rw [run_step _ _ _ _ _ _ (show vvW 1 (tokB s) 0 = (((v 0 : Nat) : Int), none) by rw [vv_opd 1 _ 0 0 114 (by decide) rfl rfl rfl, hv 0 (by decide)]),
      run_step _ _ _ _ _ _ (show vvW 1 (tokB s) 1 = (((v 1 : Nat) : Int), none) by rw [vv_opd 1 _ 1 1 110 (by decide) rfl rfl rfl, hv 1 (by decide)])]
    rfl
  · show insV 2 (runV _ [114, 110] 0 ([], 0)) = _
    rw [run_step _ _ _ _ _ _ (show vvW 2 (tokB s) 0 = (((v 0 : Nat) : Int), none) by rw [vv_opd 2 _ 0 0 114 (by decide) rfl rfl rfl, hv 0 (by decide)]),
      run_step _ _ _ _ _ _ (show vvW 2 (tokB s) 1 = (((v 1 : Nat) : Int), none) by rw [vv_opd 2 _ 1 1 110 (by decide) rfl rfl rfl, hv 1 (by decide)])]
    rfl
  · show insV 3 (runV _ [111, 114, 114, 114] 0 ([], 0)) = _
    rw [run_step _ _ _ _ _ _ (vv_sec _ sec (hs.1 rfl)),
      run_step _ _ _ _ _ _ (show vvW 3 (tokB s) 1 = (((v 0 : Nat) : Int), none) by rw [vv_opd 3 _ 1 0 114 (by decide) rfl rfl rfl, hv 0 (by decide)]),
      run_step _ _ _ _ _ _ (show vvW 3 (tokB s) 2 = (((v 1 : Nat) : Int), none) by rw [vv_opd 3 _ 2 1 114 (by decide) rfl rfl rfl, hv 1 (by decide)]),
      run_step _ _ _ _ _ _ (show vvW 3 (tokB s) 3 = (((v 2 : Nat) : Int), none) by rw [vv_opd 3 _ 3 2 114 (by decide) rfl rfl rfl, hv 2 (by decide)])]
    rfl
  · show insV 4 (runV _ [110] 0 ([], 0)) = _
    rw [run_step _ _ _ _ _ _ (show vvW 4 (tokB s) 0 = (((v 0 : Nat) : Int), none) by rw [vv_opd 4 _ 0 0 110 (by decide) rfl rfl rfl, hv 0 (by decide)])]
    rfl
  · show insV 5 (runV _ [114, 110] 0 ([], 0)) = _
    rw [run_step _ _ _ _ _ _ (show vvW 5 (tokB s) 0 = (((v 0 : Nat) : Int), none) by rw [vv_opd 5 _ 0 0 114 (by decide) rfl rfl rfl, hv 0 (by decide)]),
      run_step _ _ _ _ _ _ (show vvW 5 (tokB s) 1 = (((v 1 : Nat) : Int), none) by rw [vv_opd 5 _ 1 1 110 (by decide) rfl rfl rfl, hv 1 (by decide)])]
    rfl
  · show insV 6 (runV _ [114, 114, 110] 0 ([], 0)) = _
    rw [run_step _ _ _ _ _ _ (show vvW 6 (tokB s) 0 = (((v 0 : Nat) : Int), none) by rw [vv_opd 6 _ 0 0 114 (by decide) rfl rfl rfl, hv 0 (by decide)]),
      run_step _ _ _ _ _ _ (show vvW 6 (tokB s) 1 = (((v 1 : Nat) : Int), none) by rw [vv_opd 6 _ 1 1 114 (by decide) rfl rfl rfl, hv 1 (by decide)]),
      run_step _ _ _ _ _ _ (show vvW 6 (tokB s) 2 = (((v 2 : Nat) : Int), none) by rw [vv_opd 6 _ 2 2 110 (by decide) rfl rfl rfl, hv 2 (by decide)])]
    rfl
  · show insV 7 (runV _ [114, 114, 110] 0 ([], 0)) = _
    rw [run_step _ _ _ _ _ _ (show vvW 7 (tokB s) 0 = (((v 0 : Nat) : Int), none) by rw [vv_opd 7 _ 0 0 114 (by decide) rfl rfl rfl, hv 0 (by decide)]),
      run_step _ _ _ _ _ _ (show vvW 7 (tokB s) 1 = (((v 1 : Nat) : Int), none) by rw [vv_opd 7 _ 1 1 114 (by decide) rfl rfl rfl, hv 1 (by decide)]),
      run_step _ _ _ _ _ _ (show vvW 7 (tokB s) 2 = (((v 2 : Nat) : Int), none) by rw [vv_opd 7 _ 2 2 110 (by decide) rfl rfl rfl, hv 2 (by decide)])]
    rfl
  · show insV 8 (runV _ [107, 107] 0 ([], 0)) = _
    rw [run_step _ _ _ _ _ _ (show vvW 8 (tokB s) 0 = (((v 0 : Nat) : Int), none) by rw [vv_opd 8 _ 0 0 107 (by decide) rfl rfl rfl, hv 0 (by decide)]),
      run_step _ _ _ _ _ _ (show vvW 8 (tokB s) 1 = (((v 1 : Nat) : Int), none) by rw [vv_opd 8 _ 1 1 107 (by decide) rfl rfl rfl, hv 1 (by decide)])]
    rfl
  · show insV 9 (runV _ [107, 114] 0 ([], 0)) = _
    rw [run_step _ _ _ _ _ _ (show vvW 9 (tokB s) 0 = (((v 0 : Nat) : Int), none) by rw [vv_opd 9 _ 0 0 107 (by decide) rfl rfl rfl, hv 0 (by decide)]),
      run_step _ _ _ _ _ _ (show vvW 9 (tokB s) 1 = (((v 1 : Nat) : Int), none) by rw [vv_opd 9 _ 1 1 114 (by decide) rfl rfl rfl, hv 1 (by decide)])]
    rfl
  · show insV 10 (runV _ [114, 107] 0 ([], 0)) = _
    rw [run_step _ _ _ _ _ _ (show vvW 10 (tokB s) 0 = (((v 0 : Nat) : Int), none) by rw [vv_opd 10 _ 0 0 114 (by decide) rfl rfl rfl, hv 0 (by decide)]),
      run_step _ _ _ _ _ _ (show vvW 10 (tokB s) 1 = (((v 1 : Nat) : Int), none) by rw [vv_opd 10 _ 1 1 107 (by decide) rfl rfl rfl, hv 1 (by decide)])]
    rfl
  · show insV 11 (runV _ [109, 107, 107] 0 ([], 0)) = _
    rw [run_step _ _ _ _ _ _ (vv_sec11 _ sec (hs.2 rfl)),
      run_step _ _ _ _ _ _ (show vvW 11 (tokB s) 1 = (((v 0 : Nat) : Int), none) by rw [vv_opd 11 _ 1 0 107 (by decide) rfl rfl rfl, hv 0 (by decide)]),
      run_step _ _ _ _ _ _ (show vvW 11 (tokB s) 2 = (((v 1 : Nat) : Int), none) by rw [vv_opd 11 _ 2 1 107 (by decide) rfl rfl rfl, hv 1 (by decide)])]
    rfl
  · show insV 12 (runV _ [] 0 ([], 0)) = _
    rfl
  · show insV 13 (runV _ [] 0 ([], 0)) = _
    rfl
/-- The first operand that does not read. -/
theorem line_bad (s : ByteArray) (op : Nat) (h0 : 1 ≤ op) (h13 : op ≤ 13) (h : opW (tokB s) = op) (hl : (tokB s).length = atV op + (kdL.getD op []).length) (sec : Nat) (hs : secOk op (tokB s) sec) (v : Nat → Nat) (i : Nat) (hi : i < (kdL.getD op []).length) (hv : ∀ j, j < i → opdW op (tokB s) j = some (v j)) (hn : opdW op (tokB s) i = none) :
    lineV s = ((0, 0, 0, 0, 0), some 11) := by
  rw [line_vv s op h]
  have hk := kd_len ⟨op, by omega⟩ h0
  simp only at hk
  unfold parseV
  rw [if_neg (by omega)]
  clear h hl hk
  rcases (show op = 1 ∨ op = 2 ∨ op = 3 ∨ op = 4 ∨ op = 5 ∨ op = 6 ∨ op = 7 ∨ op = 8 ∨ op = 9 ∨ op = 10 ∨ op = 11 ∨ op = 12 ∨ op = 13 by omega) with rfl | rfl | rfl | rfl | rfl | rfl | rfl | rfl | rfl | rfl | rfl | rfl | rfl
  · replace hi : i < 2 := hi
    rcases (show i = 0 ∨ i = 1 by omega) with rfl | rfl
    · show insV 1 (runV _ [114, 110] 0 ([], 0)) = _
      rw [run_stop _ _ _ _ _ _ _ (show vvW 1 (tokB s) 0 = (0, some 11) by rw [vv_opd 1 _ 0 0 114 (by decide) rfl rfl rfl, hn])]
      rfl
    · show insV 1 (runV _ [114, 110] 0 ([], 0)) = _
      rw [run_step _ _ _ _ _ _ (show vvW 1 (tokB s) 0 = (((v 0 : Nat) : Int), none) by rw [vv_opd 1 _ 0 0 114 (by decide) rfl rfl rfl, hv 0 (by decide)]),
        run_stop _ _ _ _ _ _ _ (show vvW 1 (tokB s) 1 = (0, some 11) by rw [vv_opd 1 _ 1 1 110 (by decide) rfl rfl rfl, hn])]
      rfl
  · replace hi : i < 2 := hi
    rcases (show i = 0 ∨ i = 1 by omega) with rfl | rfl
    · show insV 2 (runV _ [114, 110] 0 ([], 0)) = _
      rw [run_stop _ _ _ _ _ _ _ (show vvW 2 (tokB s) 0 = (0, some 11) by rw [vv_opd 2 _ 0 0 114 (by decide) rfl rfl rfl, hn])]
      rfl
    · show insV 2 (runV _ [114, 110] 0 ([], 0)) = _
      rw [run_step _ _ _ _ _ _ (show vvW 2 (tokB s) 0 = (((v 0 : Nat) : Int), none) by rw [vv_opd 2 _ 0 0 114 (by decide) rfl rfl rfl, hv 0 (by decide)]),
        run_stop _ _ _ _ _ _ _ (show vvW 2 (tokB s) 1 = (0, some 11) by rw [vv_opd 2 _ 1 1 110 (by decide) rfl rfl rfl, hn])]
      rfl
  · replace hi : i < 3 := hi
    rcases (show i = 0 ∨ i = 1 ∨ i = 2 by omega) with rfl | rfl | rfl
    · show insV 3 (runV _ [111, 114, 114, 114] 0 ([], 0)) = _
      rw [run_step _ _ _ _ _ _ (vv_sec _ sec (hs.1 rfl)),
        run_stop _ _ _ _ _ _ _ (show vvW 3 (tokB s) 1 = (0, some 11) by rw [vv_opd 3 _ 1 0 114 (by decide) rfl rfl rfl, hn])]
      rfl
    · show insV 3 (runV _ [111, 114, 114, 114] 0 ([], 0)) = _
      rw [run_step _ _ _ _ _ _ (vv_sec _ sec (hs.1 rfl)),
        run_step _ _ _ _ _ _ (show vvW 3 (tokB s) 1 = (((v 0 : Nat) : Int), none) by rw [vv_opd 3 _ 1 0 114 (by decide) rfl rfl rfl, hv 0 (by decide)]),
        run_stop _ _ _ _ _ _ _ (show vvW 3 (tokB s) 2 = (0, some 11) by rw [vv_opd 3 _ 2 1 114 (by decide) rfl rfl rfl, hn])]
      rfl
    · show insV 3 (runV _ [111, 114, 114, 114] 0 ([], 0)) = _
      rw [run_step _ _ _ _ _ _ (vv_sec _ sec (hs.1 rfl)),
        run_step _ _ _ _ _ _ (show vvW 3 (tokB s) 1 = (((v 0 : Nat) : Int), none) by rw [vv_opd 3 _ 1 0 114 (by decide) rfl rfl rfl, hv 0 (by decide)]),
        run_step _ _ _ _ _ _ (show vvW 3 (tokB s) 2 = (((v 1 : Nat) : Int), none) by rw [vv_opd 3 _ 2 1 114 (by decide) rfl rfl rfl, hv 1 (by decide)]),
        run_stop _ _ _ _ _ _ _ (show vvW 3 (tokB s) 3 = (0, some 11) by rw [vv_opd 3 _ 3 2 114 (by decide) rfl rfl rfl, hn])]
      rfl
  · replace hi : i < 1 := hi
    rcases (show i = 0 by omega) with rfl
    · show insV 4 (runV _ [110] 0 ([], 0)) = _
      rw [run_stop _ _ _ _ _ _ _ (show vvW 4 (tokB s) 0 = (0, some 11) by rw [vv_opd 4 _ 0 0 110 (by decide) rfl rfl rfl, hn])]
      rfl
  · replace hi : i < 2 := hi
    rcases (show i = 0 ∨ i = 1 by omega) with rfl | rfl
    · show insV 5 (runV _ [114, 110] 0 ([], 0)) = _
      rw [run_stop _ _ _ _ _ _ _ (show vvW 5 (tokB s) 0 = (0, some 11) by rw [vv_opd 5 _ 0 0 114 (by decide) rfl rfl rfl, hn])]
      rfl
    · show insV 5 (runV _ [114, 110] 0 ([], 0)) = _
      rw [run_step _ _ _ _ _ _ (show vvW 5 (tokB s) 0 = (((v 0 : Nat) : Int), none) by rw [vv_opd 5 _ 0 0 114 (by decide) rfl rfl rfl, hv 0 (by decide)]),
        run_stop _ _ _ _ _ _ _ (show vvW 5 (tokB s) 1 = (0, some 11) by rw [vv_opd 5 _ 1 1 110 (by decide) rfl rfl rfl, hn])]
      rfl
  · replace hi : i < 3 := hi
    rcases (show i = 0 ∨ i = 1 ∨ i = 2 by omega) with rfl | rfl | rfl
    · show insV 6 (runV _ [114, 114, 110] 0 ([], 0)) = _
      rw [run_stop _ _ _ _ _ _ _ (show vvW 6 (tokB s) 0 = (0, some 11) by rw [vv_opd 6 _ 0 0 114 (by decide) rfl rfl rfl, hn])]
      rfl
    · show insV 6 (runV _ [114, 114, 110] 0 ([], 0)) = _
      rw [run_step _ _ _ _ _ _ (show vvW 6 (tokB s) 0 = (((v 0 : Nat) : Int), none) by rw [vv_opd 6 _ 0 0 114 (by decide) rfl rfl rfl, hv 0 (by decide)]),
        run_stop _ _ _ _ _ _ _ (show vvW 6 (tokB s) 1 = (0, some 11) by rw [vv_opd 6 _ 1 1 114 (by decide) rfl rfl rfl, hn])]
      rfl
    · show insV 6 (runV _ [114, 114, 110] 0 ([], 0)) = _
      rw [run_step _ _ _ _ _ _ (show vvW 6 (tokB s) 0 = (((v 0 : Nat) : Int), none) by rw [vv_opd 6 _ 0 0 114 (by decide) rfl rfl rfl, hv 0 (by decide)]),
        run_step _ _ _ _ _ _ (show vvW 6 (tokB s) 1 = (((v 1 : Nat) : Int), none) by rw [vv_opd 6 _ 1 1 114 (by decide) rfl rfl rfl, hv 1 (by decide)]),
        run_stop _ _ _ _ _ _ _ (show vvW 6 (tokB s) 2 = (0, some 11) by rw [vv_opd 6 _ 2 2 110 (by decide) rfl rfl rfl, hn])]
      rfl
  · replace hi : i < 3 := hi
    rcases (show i = 0 ∨ i = 1 ∨ i = 2 by omega) with rfl | rfl | rfl
    · show insV 7 (runV _ [114, 114, 110] 0 ([], 0)) = _
      rw [run_stop _ _ _ _ _ _ _ (show vvW 7 (tokB s) 0 = (0, some 11) by rw [vv_opd 7 _ 0 0 114 (by decide) rfl rfl rfl, hn])]
      rfl
    · show insV 7 (runV _ [114, 114, 110] 0 ([], 0)) = _
      rw [run_step _ _ _ _ _ _ (show vvW 7 (tokB s) 0 = (((v 0 : Nat) : Int), none) by rw [vv_opd 7 _ 0 0 114 (by decide) rfl rfl rfl, hv 0 (by decide)]),
        run_stop _ _ _ _ _ _ _ (show vvW 7 (tokB s) 1 = (0, some 11) by rw [vv_opd 7 _ 1 1 114 (by decide) rfl rfl rfl, hn])]
      rfl
    · show insV 7 (runV _ [114, 114, 110] 0 ([], 0)) = _
      rw [run_step _ _ _ _ _ _ (show vvW 7 (tokB s) 0 = (((v 0 : Nat) : Int), none) by rw [vv_opd 7 _ 0 0 114 (by decide) rfl rfl rfl, hv 0 (by decide)]),
        run_step _ _ _ _ _ _ (show vvW 7 (tokB s) 1 = (((v 1 : Nat) : Int), none) by rw [vv_opd 7 _ 1 1 114 (by decide) rfl rfl rfl, hv 1 (by decide)]),
        run_stop _ _ _ _ _ _ _ (show vvW 7 (tokB s) 2 = (0, some 11) by rw [vv_opd 7 _ 2 2 110 (by decide) rfl rfl rfl, hn])]
      rfl
  · replace hi : i < 2 := hi
    rcases (show i = 0 ∨ i = 1 by omega) with rfl | rfl
    · show insV 8 (runV _ [107, 107] 0 ([], 0)) = _
      rw [run_stop _ _ _ _ _ _ _ (show vvW 8 (tokB s) 0 = (0, some 11) by rw [vv_opd 8 _ 0 0 107 (by decide) rfl rfl rfl, hn])]
      rfl
    · show insV 8 (runV _ [107, 107] 0 ([], 0)) = _
      rw [run_step _ _ _ _ _ _ (show vvW 8 (tokB s) 0 = (((v 0 : Nat) : Int), none) by rw [vv_opd 8 _ 0 0 107 (by decide) rfl rfl rfl, hv 0 (by decide)]),
        run_stop _ _ _ _ _ _ _ (show vvW 8 (tokB s) 1 = (0, some 11) by rw [vv_opd 8 _ 1 1 107 (by decide) rfl rfl rfl, hn])]
      rfl
  · replace hi : i < 2 := hi
    rcases (show i = 0 ∨ i = 1 by omega) with rfl | rfl
    · show insV 9 (runV _ [107, 114] 0 ([], 0)) = _
      rw [run_stop _ _ _ _ _ _ _ (show vvW 9 (tokB s) 0 = (0, some 11) by rw [vv_opd 9 _ 0 0 107 (by decide) rfl rfl rfl, hn])]
      rfl
    · show insV 9 (runV _ [107, 114] 0 ([], 0)) = _
      rw [run_step _ _ _ _ _ _ (show vvW 9 (tokB s) 0 = (((v 0 : Nat) : Int), none) by rw [vv_opd 9 _ 0 0 107 (by decide) rfl rfl rfl, hv 0 (by decide)]),
        run_stop _ _ _ _ _ _ _ (show vvW 9 (tokB s) 1 = (0, some 11) by rw [vv_opd 9 _ 1 1 114 (by decide) rfl rfl rfl, hn])]
      rfl
  · replace hi : i < 2 := hi
    rcases (show i = 0 ∨ i = 1 by omega) with rfl | rfl
    · show insV 10 (runV _ [114, 107] 0 ([], 0)) = _
      rw [run_stop _ _ _ _ _ _ _ (show vvW 10 (tokB s) 0 = (0, some 11) by rw [vv_opd 10 _ 0 0 114 (by decide) rfl rfl rfl, hn])]
      rfl
    · show insV 10 (runV _ [114, 107] 0 ([], 0)) = _
      rw [run_step _ _ _ _ _ _ (show vvW 10 (tokB s) 0 = (((v 0 : Nat) : Int), none) by rw [vv_opd 10 _ 0 0 114 (by decide) rfl rfl rfl, hv 0 (by decide)]),
        run_stop _ _ _ _ _ _ _ (show vvW 10 (tokB s) 1 = (0, some 11) by rw [vv_opd 10 _ 1 1 107 (by decide) rfl rfl rfl, hn])]
      rfl
  · replace hi : i < 2 := hi
    rcases (show i = 0 ∨ i = 1 by omega) with rfl | rfl
    · show insV 11 (runV _ [109, 107, 107] 0 ([], 0)) = _
      rw [run_step _ _ _ _ _ _ (vv_sec11 _ sec (hs.2 rfl)),
        run_stop _ _ _ _ _ _ _ (show vvW 11 (tokB s) 1 = (0, some 11) by rw [vv_opd 11 _ 1 0 107 (by decide) rfl rfl rfl, hn])]
      rfl
    · show insV 11 (runV _ [109, 107, 107] 0 ([], 0)) = _
      rw [run_step _ _ _ _ _ _ (vv_sec11 _ sec (hs.2 rfl)),
        run_step _ _ _ _ _ _ (show vvW 11 (tokB s) 1 = (((v 0 : Nat) : Int), none) by rw [vv_opd 11 _ 1 0 107 (by decide) rfl rfl rfl, hv 0 (by decide)]),
        run_stop _ _ _ _ _ _ _ (show vvW 11 (tokB s) 2 = (0, some 11) by rw [vv_opd 11 _ 2 1 107 (by decide) rfl rfl rfl, hn])]
      rfl
  · replace hi : i < 0 := hi
    omega
  · replace hi : i < 0 := hi
    omega
end Go.Proofs.YtaekccgcnlepaaaGreatDoor
