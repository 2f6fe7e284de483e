/-
  package asm: parse, whole; Line.
-/
import Derived.Test.YtaekccgcnlepaaaGreatDoorAp2
import Derived.Test.YtaekccgcnlepaaaGreatDoorAp4
import Derived.Test.YtaekccgcnlepaaaGreatDoorAp5
namespace Go.Proofs.YtaekccgcnlepaaaGreatDoor
open Go.ChangeShapes Go.WideShapes Go.ChangeAt Go.RowKit
set_option linter.unusedVariables false
set_option linter.unusedSimpArgs false
theorem opW_le (ws : List ByteArray) : opW ws ≤ 13 := by
  cases ws with
  | nil => decide
  | cons x r =>
    show (idxL fNm x.data.toList).getD 0 ≤ 13
    unfold idxL
    cases h : fNm.findIdx? (fun y => decide (y = x.data.toList)) with
    | none => decide
    | some k =>
      rw [List.findIdx?_eq_some_iff_getElem] at h
      obtain ⟨hk, _⟩ := h
      have : fNm.length = 14 := by decide
      simp
      omega
theorem parse_all {A : Nat → Addr} (B c n : Nat) (ws : List ByteArray) (hn : Hid (ws.length = n)) (hn1 : n ≤ 1000) (mo : Option Nat) (vv : Nat → Int × Option Nat) (Pm : World → Prop) (hPm : ∀ W W', Pm W → Below W.heap.size W W' → Pm W')
    (hV : ∀ j, j < (aWd.getD (opW ws) []).length → ∀ W, AsmAt A W → Pm W → Calls Tryz.prog 56 #[.string (ws.getD (1 + j) ⟨#[]⟩), .int .i32 (((aWd.getD (opW ws) []).getD j 0).toNat : Int), .map (if opW ws = 4 ∨ opW ws = 5 then mo else none)] W fun e w' => e = .returned (.tuple #[.int .i64 (vv j).1, erV A (vv j).2]) ∧ Below W.heap.size W w')
    (x : (Int × Int × Int × Int × Int) × Option Nat) (hx : Hid (parseV (opW ws) n vv = x)) (w : World) (hA : AsmAt A w) (hW : WsAt w B ws) (hP : Pm w) :
    Calls Tryz.prog 31 #[.slice (some ⟨B, 0, none⟩) n c, .map mo] w fun e w' => e = .returned (.tuple #[(.agg #[.int .i64 x.1.1, .int .i64 x.1.2.1, .int .i64 x.1.2.2.1, .int .i64 x.1.2.2.2.1, .int .i64 x.1.2.2.2.2]), erV A x.2]) ∧ Below w.heap.size w w' := by
  have h13 := opW_le ws
  obtain ⟨op, hop⟩ : ∃ op, opW ws = op := ⟨_, rfl⟩
  rw [hop] at hV hx h13
  by_cases h0 : op = 0
  · exact parse_zero B c n ws hn hn1 mo op (Lib.hid hop) h13 vv Pm hPm (Lib.hid hV) x hx w hA hW hP h0
  · by_cases hc : n = 1 + (aWd.getD op []).length
    · by_cases h4 : op = 4
      · subst h4
        refine parse_4 B c n ws hn hn1 mo (Lib.hid hop) vv Pm hPm (Lib.hid fun j hj W h1 h2 => ?_) x hx w hA hW hP (Lib.hid hc)
        have := hV j hj W h1 h2
        rwa [if_pos (.inl rfl)] at this
      · by_cases h5 : op = 5
        · subst h5
          refine parse_5 B c n ws hn hn1 mo (Lib.hid hop) vv Pm hPm (Lib.hid fun j hj W h1 h2 => ?_) x hx w hA hW hP (Lib.hid hc)
          have := hV j hj W h1 h2
          rwa [if_pos (.inr rfl)] at this
        · refine parse_g B c n ws hn hn1 mo op (Lib.hid hop) h13 vv Pm hPm (Lib.hid fun j hj W h1 h2 => ?_) x hx w hA hW hP (Lib.hid ⟨h0, h4, h5⟩) (Lib.hid hc)
          have := hV j hj W h1 h2
          rwa [if_neg (by rintro (e | e); exact h4 e; exact h5 e)] at this
    · exact parse_cnt B c n ws hn hn1 mo op (Lib.hid hop) h13 vv Pm hPm (Lib.hid hV) x hx w hA hW hP h0 hc
/-- What a word of that kind says, where there are no names. -/
def valK (k : UInt8) (l : List UInt8) : Int × Option Nat := if k = 110 then decS2 l else if k = 111 then nmS wNm l else if k = 109 then nmS mNm l else regS k l
/-- The words' sizes are bounded. -/
theorem split_le (l : List UInt8) : ∀ cur x, x ∈ splitFrom cur l → x.length ≤ cur.length + l.length := by
  induction l with
  | nil =>
    intro cur x hx
    rw [splitFrom] at hx
    split at hx
    · cases hx
    · simp at hx; subst hx; simp
  | cons b r ih =>
    intro cur x hx
    rw [splitFrom] at hx
    rw [List.length_cons]
    split at hx
    · split at hx
      · have := ih [] x hx; simp at this; omega
      · rcases List.mem_cons.1 hx with rfl | hx
        · omega
        · have := ih [] x hx; simp at this; omega
    · have := ih _ x hx; simp at this; omega
theorem split_count (l : List UInt8) : ∀ cur, (splitFrom cur l).length ≤ l.length + 1 := by
  induction l with
  | nil =>
    intro cur
    rw [splitFrom]
    split <;> simp
  | cons b r ih =>
    intro cur
    rw [splitFrom, List.length_cons]
    split
    · split
      · have := ih []; omega
      · rw [List.length_cons]; have := ih []; omega
    · have := ih (cur ++ [b]); omega
theorem tok_size (s : ByteArray) (i : Nat) : ((tokB s).getD i ⟨#[]⟩).size ≤ s.size := by
  by_cases h : i < (tokB s).length
  · have hm : (tokB s).getD i ⟨#[]⟩ ∈ tokB s := by simp [List.getD, h]
    unfold tokB at hm
    obtain ⟨l, hl, e⟩ := List.mem_map.1 hm
    have := split_le _ _ _ hl
    unfold tokB
    rw [← e]
    show l.toArray.size ≤ _
    rw [List.size_toArray, ← ba_len]
    simpa using this
  · rw [List.getD_eq_getElem?_getD, List.getElem?_eq_none (by omega)]
    exact Nat.zero_le _
theorem tok_count (s : ByteArray) : (tokB s).length ≤ s.size + 1 := by
  unfold tokB tokL
  rw [List.length_map, ← ba_len]
  exact split_count _ _
theorem mem_getD (l : List UInt8) (j : Nat) (h : j < l.length) : l.getD j 0 ∈ l := by simp [List.getD, h]
theorem val_nil {A : Nat → Addr} (op : Nat) (hop : op ≤ 13) (j : Nat) (hj : j < (aWd.getD op []).length) (s : ByteArray) (hs : s.size ≤ 1000000) (mo : Option Nat) (hmo : mo = none ∨ (aWd.getD op []).getD j 0 ≠ 110) (W : World) (hA : AsmAt A W) :
    Calls Tryz.prog 56 #[.string s, .int .i32 (((aWd.getD op []).getD j 0).toNat : Int), .map mo] W fun e w' => e = .returned (.tuple #[.int .i64 (valK ((aWd.getD op []).getD j 0) s.data.toList).1, erV A (valK ((aWd.getD op []).getD j 0) s.data.toList).2]) ∧ Below W.heap.size W w' := by
  have hk := aWd_kinds ⟨op, by omega⟩ ((aWd.getD op []).getD j 0) (mem_getD _ j hj)
  obtain ⟨k, hkk⟩ : ∃ k, (aWd.getD op []).getD j 0 = k := ⟨_, rfl⟩
  rw [hkk] at hk hmo ⊢
  rcases hk with rfl | rfl | rfl | rfl | rfl
  · obtain rfl : mo = none := hmo.resolve_right (by simp)
    exact val_n s hs _ _ (Lib.hid rfl) W hA
  · exact val_o s _ _ mo (Lib.hid rfl) W hA
  · exact val_r s hs _ _ mo (Lib.hid rfl) W hA
  · exact val_k s hs _ _ mo (Lib.hid rfl) W hA
  · exact val_m s _ _ mo (Lib.hid rfl) W hA
/-- A line's instruction, or why it has none. -/
def lineV (s : ByteArray) : (Int × Int × Int × Int × Int) × Option Nat :=
  parseV (opW (tokB s)) (tokB s).length (fun j => valK ((aWd.getD (opW (tokB s)) []).getD j 0) ((tokB s).getD (1 + j) ⟨#[]⟩).data.toList)
end Go.Proofs.YtaekccgcnlepaaaGreatDoor
