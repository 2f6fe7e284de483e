/-
  Rk, Rl, Rm, Fm2, Sh2, CodeF, CodeG, Rn, Structs, Reads, Bw, Ro, Rp as one.
-/
import Derived.Test.YtaekccgcnlepaaaGreatDoorRj
import Derived.Test.YtaekccgcnlepaaaGreatDoorLr
import Derived.Test.YtaekccgcnlepaaaGreatDoorBm
import Derived.Test.YtaekccgcnlepaaaGreatDoorCodeVz
import Derived.Test.YtaekccgcnlepaaaGreatDoorOpen
import Derived.Laws.CopyOwn
namespace Go.Proofs.YtaekccgcnlepaaaGreatDoor
open Go.ChangeShapes Go.WideShapes Go.ChangeAt Go.RowKit Go.Maps
set_option linter.unusedVariables false
set_option linter.unusedSimpArgs false
/-- The operands ahead of the first that does not read; or all of them. -/
theorem first_bad (f : Nat → Option Nat) : ∀ L, (∀ j, j < L → f j = some ((f j).getD 0)) ∨ ∃ i, i < L ∧ (∀ j, j < i → f j = some ((f j).getD 0)) ∧ f i = none := by
  intro L
  induction L with
  | zero => exact .inl (fun j hj => by omega)
  | succ L ih =>
    rcases ih with h | ⟨i, hi, h1, h2⟩
    · cases hq : f L with
      | none => exact .inr ⟨L, by omega, h, hq⟩
      | some y =>
        refine .inl (fun j hj => ?_)
        by_cases e : j = L
        · subst e; rw [hq]; rfl
        · exact h j (by omega)
    · exact .inr ⟨i, by omega, h1, h2⟩
theorem ins_13 (op : Nat) (h3 : op ≠ 3) (h11 : op ≠ 11) (s1 s2 v0 v1 v2 : Int) : insR op s1 v0 v1 v2 = insR op s2 v0 v1 v2 := by
  unfold insR
  rw [if_neg h3, if_neg h11, if_neg h3, if_neg h11]
theorem end_code (I : Int × Int × Int × Int × Int) : (endR I).2 = none ∨ (endR I).2 = some 2 := by
  unfold endR
  split
  · exact .inl rfl
  · exact .inr rfl
def CodeO (o : Option Nat) : Prop := o = none ∨ o = some 2 ∨ o = some 10 ∨ o = some 11
theorem codeO_end (I : Int × Int × Int × Int × Int) : CodeO (endR I).2 := by
  rcases end_code I with h | h
  · exact .inl h
  · exact .inr (.inl h)
theorem line_code (s : ByteArray) : CodeO (lineV s).2 := by
  obtain ⟨op, hop⟩ : ∃ op, opW (tokB s) = op := ⟨_, rfl⟩
  have h13 : op ≤ 13 := by rw [← hop]; exact opW_le _
  by_cases h0 : op = 0 ∨ (tokB s).length ≠ 1 + (aWd.getD op []).length
  · rw [line_word s op hop h0]; exact .inr (.inr (.inl rfl))
  · have hk := kd_len ⟨op, by omega⟩ (by simp only; omega)
    simp only at hk
    have hl : (tokB s).length = atV op + (kdL.getD op []).length := by omega
    have main : ∀ sec, secOk op (tokB s) sec → CodeO (lineV s).2 := fun sec hs => by
      rcases first_bad (opdW op (tokB s)) (kdL.getD op []).length with h | ⟨i, hi, h1, h2⟩
      · rw [line_good s op (by omega) h13 hop hl sec hs (fun j => (opdW op (tokB s) j).getD 0) h]
        exact codeO_end _
      · rw [line_bad s op (by omega) h13 hop hl sec hs (fun j => (opdW op (tokB s) j).getD 0) i hi h1 h2]
        exact .inr (.inr (.inr rfl))
    by_cases h3 : op = 3
    · subst h3
      cases hq : idxL wNm ((tokB s).getD 1 ⟨#[]⟩).data.toList with
      | none => rw [line_second s 3 hop (.inl ⟨rfl, hq⟩)]; exact .inr (.inr (.inl rfl))
      | some sec => exact main sec ⟨fun _ => hq, fun e => by cases e⟩
    by_cases h11 : op = 11
    · subst h11
      cases hq : idxL mNm ((tokB s).getD 1 ⟨#[]⟩).data.toList with
      | none => rw [line_second s 11 hop (.inr ⟨rfl, hq⟩)]; exact .inr (.inr (.inl rfl))
      | some sec => exact main sec ⟨fun e => (by cases e), fun _ => hq⟩
    · exact main 0 ⟨fun e => absurd e h3, fun e => absurd e h11⟩
/-- The document's AsmLine, of any line. -/
theorem rasm_is (s : ByteArray) (hs : s.size ≤ 900) (X : (Int × Int × Int × Int × Int) × Option Nat) (hX : Hid (lineV s = X)) (w : World) : Calls Tryz.prog 40 #[.string s] w fun e w' => e = .returned (.tuple #[(.agg #[.int .i64 X.1.1, .int .i64 X.1.2.1, .int .i64 X.1.2.2.1, .int .i64 X.1.2.2.2.1, .int .i64 X.1.2.2.2.2]), .int .i64 (codR X.2)]) ∧ Below w.heap.size w w' := by
  obtain ⟨n, HN⟩ : ∃ n, Hid ((tokB s).length = n) := ⟨_, Lib.hid rfl⟩
  have hn1 : n ≤ 1000 := by rw [← HN.out]; exact Nat.le_trans (tok_count s) (by omega)
  obtain ⟨op, hop⟩ : ∃ op, opW (tokB s) = op := ⟨_, rfl⟩
  have h13 : op ≤ 13 := by rw [← hop]; exact opW_le _
  by_cases hn0 : n = 0
  · have ht : tokB s = [] := List.length_eq_zero_iff.1 (by rw [HN.out]; exact hn0)
    have h0 : op = 0 := by rw [← hop, ht]; rfl
    obtain rfl : X = ((0, 0, 0, 0, 0), some 10) := by rw [← hX.out]; exact line_word s op hop (.inl h0)
    exact rasm_none s hs ht w
  by_cases h3 : op = 3
  · subst h3; exact rasm_3 s hs n HN (by omega) hn1 (Lib.hid hop) X hX w
  by_cases h11 : op = 11
  · subst h11; exact rasm_11 s hs n HN (by omega) hn1 (Lib.hid hop) X hX w
  have hat : atV op = 1 := atV_1 op h3 h11
  by_cases hc : op = 0 ∨ n ≠ 1 + (kdL.getD op []).length
  · obtain rfl : X = ((0, 0, 0, 0, 0), some 10) := by
      rw [← hX.out]
      refine line_word s op hop ?_
      by_cases h0 : op = 0
      · exact .inl h0
      · have hk := kd_len ⟨op, by omega⟩ (by simp only; omega)
        simp only at hk
        have hN := HN.out
        exact .inr (by omega)
    exact rasm_cnt s hs n op HN (by omega) hn1 (Lib.hid hop) h3 h11 h13 hc w
  have hN := HN.out
  have hl : (tokB s).length = atV op + (kdL.getD op []).length := by omega
  have hs0 : secOk op (tokB s) 0 := ⟨fun e => absurd e h3, fun e => absurd e h11⟩
  rcases first_bad (opdW op (tokB s)) (kdL.getD op []).length with h | ⟨i, hi, h1, h2⟩
  · exact rasm_good s hs n op HN (by omega) hn1 (Lib.hid hop) h3 h11 (by omega) h13 (by omega) (fun j => (opdW op (tokB s) j).getD 0) h X (Lib.hid ((line_good s op (by omega) h13 hop hl 0 hs0 (fun j => (opdW op (tokB s) j).getD 0) h).symm.trans hX.out)) w
  · obtain rfl : X = ((0, 0, 0, 0, 0), some 11) := by
      rw [← hX.out]
      exact line_bad s op (by omega) h13 hop hl 0 hs0 (fun j => (opdW op (tokB s) j).getD 0) i hi h1 h2
    exact rasm_bad s hs n op HN (by omega) hn1 (Lib.hid hop) h3 h11 (by omega) h13 (by omega) i hi (fun j => (opdW op (tokB s) j).getD 0) h1 h2 w
def z5 (a0 a1 a2 a3 a4 : Int) (t : TypeId) : Obj := .cells #[.int .i64 a0, .int .i64 a1, .int .i64 a2, .int .i64 a3, .int .i64 a4] t
end Go.Proofs.YtaekccgcnlepaaaGreatDoor
namespace Go.Proofs.YtaekccgcnlepaaaGreatDoor
open Go.ChangeShapes Go.WideShapes Go.ChangeAt Go.RowKit Go.Maps
set_option linter.unusedVariables false
set_option linter.unusedSimpArgs false
set_option maxRecDepth 100000 in
set_option maxHeartbeats 2000000 in
theorem rname_is (s : ByteArray) (hs : s.size ≤ 1000000) (t : Bool) (h : Hid (nameL s.data.toList = t)) (w : World) :
    Calls Tryz.prog 35 #[.string s] w fun e w' => e = .returned (.bool t) ∧ Below w.heap.size w w' := by
  have hlen := ba_len s
  have HL := Lib.hid hlen
  clear hlen
  go_enter Tryz.func35, Tryz.ntmps35
  go_wp2_with fail
  go_loopw [3] (fun i wr => ∃ (k : Nat), k ≤ s.size ∧ i = .int .i64 k ∧ Below w.heap.size w wr ∧ (s.data.toList.take k).all (inB 97 122) = true) (fun i _ => s.size - (intOf i).toNat)
  case atStart => exact ⟨0, by omega, rfl, Below.refl _ _, rfl⟩
  case round =>
    obtain ⟨k, hk, rfl, hb, hall⟩ := hrel
    have HB := Lib.hid hb
    have HA := Lib.hid hall
    by_cases hlt : k < s.size
    · have hg := ba_get s k hlt
      have HN : Hid ((s.data.toList.take (k + 1)).all (inB 97 122) = inB 97 122 (s[k]'hlt)) := Lib.hid (take_all _ _ _ hall hg)
      have HG := Lib.hid hg
      have k0 : (0 : Int) ≤ (k : Int) := by omega
      have k1 : (k : Int) < (s.size : Int) := by omega
      obtain ⟨c, hc⟩ : ∃ c, s[k]'hlt = c := ⟨_, rfl⟩
      have hcl : c.toNat < 256 := UInt8.toNat_lt c
      rw [hc] at HN HG
      by_cases hin : inB 97 122 c = true
      · have h2 : 97 ≤ c.toNat ∧ c.toNat ≤ 122 := by simpa [inB] using hin
        have e1 : decide (((s[k]'hlt).toNat : Int) < 97) = false := by rw [hc]; simp; omega
        have e2 : decide ((122 : Int) < ((s[k]'hlt).toNat : Int)) = false := by rw [hc]; simp; omega
        have HA2 : Hid ((s.data.toList.take (k + 1)).all (inB 97 122) = true) := Lib.hid (by rw [HN.out, hin])
        clear hb hall hg hin h2 hc
        go_wp2_with fail
        go_roundw
        case rel => exact ⟨k + 1, by omega, by go_num, HB.out, HA2.out⟩
        case measure => simp [intOf]; omega
      · have hin2 : inB 97 122 c = false := by simpa using hin
        have HT : Hid (t = false) := Lib.hid (by
          rw [← h.out]
          unfold nameL
          rw [all_not _ _ _ HG.out hin2, Bool.and_false])
        by_cases hlo : c.toNat < 97
        · have e1 : decide (((s[k]'hlt).toNat : Int) < 97) = true := by rw [hc]; simp; omega
          clear hb hall hg hin hin2 hc hlo
          go_wp2_with fail
          go_ret
          exact ⟨by rw [HT.out]; rfl, HB.out⟩
        · have e1 : decide (((s[k]'hlt).toNat : Int) < 97) = false := by rw [hc]; simp; omega
          have hhi : 122 < c.toNat := by
            unfold inB at hin2
            simp only [decide_eq_false_iff_not] at hin2
            omega
          have e2 : decide ((122 : Int) < ((s[k]'hlt).toNat : Int)) = true := by rw [hc]; simp; omega
          clear hb hall hg hin hin2 hc hlo hhi
          go_wp2_with fail
          go_ret
          exact ⟨by rw [HT.out]; rfl, HB.out⟩
    · obtain rfl : k = s.size := by omega
      have ht : s.data.toList.take s.size = s.data.toList := List.take_of_length_le (by rw [HL.out]; exact Nat.le_refl _)
      rw [ht] at hall
      have HT : Hid (t = !s.data.toList.isEmpty) := Lib.hid (by rw [← h.out]; unfold nameL; rw [hall, Bool.and_true])
      have hdd : decide (s.size < s.size) = false := by simp
      clear hb hall ht
      by_cases h0 : s.data.toList = []
      · have g1 : s.toList = [] := by rw [Lib.toList_data]; exact h0
        have HT2 : Hid (t = false) := Lib.hid (by rw [HT.out, h0]; rfl)
        clear h0
        go_wp2_with fail
        go_ret
        exact ⟨by rw [HT2.out]; rfl, HB.out⟩
      · have g1 : ¬ s.toList = [] := by rw [Lib.toList_data]; exact h0
        have g2 : s.toList.isEmpty = false := by rw [List.isEmpty_eq_false_iff]; exact g1
        have g3 : (s.toList == []) = false := by rw [beq_eq_false_iff_ne]; exact g1
        have HT2 : Hid (t = true) := Lib.hid (by
          rw [HT.out]
          cases hq : s.data.toList with
          | nil => exact absurd hq h0
          | cons a b => rfl)
        clear h0
        go_wp2_with fail
        go_ret
        exact ⟨by rw [HT2.out]; rfl, HB.out⟩
/-- A row that is read: its cells. -/
def RowC (w : World) (a : Option Addr) (l : List Value) : Prop := ∀ j v, l[j]? = some v → ∃ g, a = some ⟨g, 0, none⟩ ∧ g < w.heap.size ∧ w.cell? ⟨g, j, none⟩ = some v
theorem RowC.below {w w' : World} {a : Option Addr} {l : List Value} (h : RowC w a l) (hb : Below w.heap.size w w') : RowC w' a l := fun j v hj => by
  obtain ⟨g, h1, h2, h3⟩ := h j v hj
  exact ⟨g, h1, Nat.lt_of_lt_of_le h2 hb.size, (hb.cell (p := ⟨g, j, none⟩) h2).trans h3⟩
theorem RowC.of {w : World} {B E n : Nat} {a : Option Addr} {c : Nat} {l : List Value} (h : w.ownsRow B E 1 (.slice a n c) n l) (hl : l.length = n) : RowC w a l := fun j v hj => by
  have hj2 : j < l.length := (List.getElem?_eq_some_iff.1 hj).1
  obtain ⟨g, hg⟩ := own_some h (by omega)
  subst hg
  have := h.cellAt j (by omega)
  exact ⟨g, rfl, (h.lt g rfl).2, by rw [this, hj]⟩
def wsV (ws : List ByteArray) : List Value := ws.map Value.string
theorem wsV_at (ws : List ByteArray) (j : Nat) (hj : j < ws.length) : (wsV ws)[j]? = some (.string (ws.getD j ⟨#[]⟩)) := by
  unfold wsV
  rw [List.getElem?_map, List.getElem?_eq_getElem hj]
  simp [List.getD, hj]
theorem RowC.word {w : World} {a : Option Addr} {ws : List ByteArray} (h : RowC w a (wsV ws)) (j : Nat) (hj : j < ws.length) : ∃ g, a = some ⟨g, 0, none⟩ ∧ g < w.heap.size ∧ w.cell? ⟨g, j, none⟩ = some (.string (ws.getD j ⟨#[]⟩)) := h j _ (wsV_at ws j hj)
theorem sil_head (x : ByteArray) (r : List ByteArray) (b : UInt8) (l : List UInt8) (hx : x.data.toList = b :: l) : silentL (x :: r) = (b == 35) := by
  show Lib.hasPrefix x.data.toList [35] = _
  rw [hx]
  simp [Lib.hasPrefix, List.isPrefixOf]
  rw [Bool.beq_comm]
set_option maxRecDepth 100000 in
theorem rsilent_is (a : Option Addr) (c n : Nat) (ws : List ByteArray) (hn : Hid (ws.length = n)) (hn1 : n ≤ 1000) (hne : Hid (∀ i, i < n → (ws.getD i ⟨#[]⟩).data.toList ≠ [])) (t : Bool) (ht : Hid (silentL ws = t)) (w : World) (h : RowC w a (wsV ws)) :
    Calls Tryz.prog 17 #[.slice a n c] w fun e w' => e = .returned (.bool t) ∧ Below w.heap.size w w' := by
  cases ws with
  | nil =>
    have h0 : n = 0 := by rw [← hn.out]; rfl
    subst h0
    have HT : Hid (t = true) := Lib.hid (by rw [← ht.out]; rfl)
    clear h
    go_enter Tryz.func17, Tryz.ntmps17
    go_wp2_with fail
    go_ret
    exact ⟨by rw [HT.out]; rfl, Below.refl _ _⟩
  | cons x r =>
    have hp : 0 < n := by rw [← hn.out]; simp
    obtain ⟨g, rfl, hg, hc⟩ := h.word 0 (by simp)
    simp only [List.getD_cons_zero] at hc
    have hx := hne.out 0 hp
    simp only [List.getD_cons_zero] at hx
    obtain ⟨b, l, hbl⟩ : ∃ b l, x.data.toList = b :: l := by
      cases hq : x.data.toList with
      | nil => exact absurd hq hx
      | cons b l => exact ⟨b, l, rfl⟩
    have hsz : 0 < x.size := by rw [← ba_len, hbl]; simp
    have hg0 := ba_get x 0 hsz
    rw [hbl] at hg0
    have hb0 : x[0]'hsz = b := by simpa using hg0.symm
    have HT : Hid (t = (b == 35)) := Lib.hid (by rw [← ht.out]; exact sil_head x r b l hbl)
    have hp1 : ((n : Int) == 0) = false := by simp; omega
    have hp2 : (0 : Int) < (n : Int) := by omega
    have hp3 : (0 : Int) < (x.size : Int) := by omega
    have e1 : (((x[0]'hsz).toNat : Int) == 35) = t := by
      rw [hb0, HT.out]
      by_cases e : b = 35
      · subst e; rfl
      · rw [show (b == 35) = false from by simpa using e, beq_eq_false_iff_ne]
        intro e2
        exact e (UInt8.toNat_inj.1 (by rw [show (35 : UInt8).toNat = 35 from rfl]; omega))
    clear h hx hbl hg0 hb0
    go_enter Tryz.func17, Tryz.ntmps17
    go_wp2_with fail
    go_ret
    exact ⟨rfl, Below.refl _ _⟩
set_option maxRecDepth 100000 in
set_option maxHeartbeats 2000000 in
theorem rlabel_is (a : Option Addr) (c n : Nat) (ws : List ByteArray) (hn : Hid (ws.length = n)) (hn1 : n ≤ 1000) (hz : Hid (∀ i, (ws.getD i ⟨#[]⟩).size ≤ 900)) (nm : ByteArray) (t : Bool) (hnm : NmR ws nm t) (w : World) (h : RowC w a (wsV ws)) :
    Calls Tryz.prog 16 #[.slice a n c] w fun e w' => e = .returned (.tuple #[.string nm, .bool t]) ∧ Below w.heap.size w w' := by
  by_cases h1 : n = 1
  · obtain ⟨x, rfl⟩ : ∃ x, ws = [x] := by
      have := hn.out
      rw [h1] at this
      exact List.length_eq_one_iff.1 this
    subst h1
    obtain ⟨g, rfl, hg, hc⟩ := h.word 0 (by simp)
    simp only [List.getD_cons_zero] at hc
    have hxz : x.size ≤ 900 := hz.out 0
    have e0 : ((1 : Int) != 1) = false := by decide
    have no : nmIn [x] = none → nm = ⟨#[]⟩ ∧ t = false := fun e => by
      rcases hnm with ⟨h2, _⟩ | ⟨_, h2, h3⟩
      · rw [e] at h2; cases h2
      · exact ⟨h3, h2⟩
    have hlen := ba_len x
    by_cases h2 : x.size < 2
    · have hnn : nmIn [x] = none := by
        unfold nmIn
        simp only
        rw [if_neg]
        rintro ⟨hs, hnl⟩
        have : (Lib.trimSuffix x.data.toList [58]).length = 0 := by
          unfold Lib.trimSuffix
          rw [if_pos hs, List.length_take, hlen]
          simp; omega
        rw [List.length_eq_zero_iff.1 this] at hnl
        cases hnl
      obtain ⟨rfl, rfl⟩ := no hnn
      have d1 : decide ((x.size : Int) - 1 < 1) = true := by simp; omega
      clear h no hnn h2 hlen
      go_enter Tryz.func16, Tryz.ntmps16
      go_wp2_with fail
      go_ret2
      exact ⟨rfl, Below.refl _ _⟩
    have hl : x.size - 1 < x.size := by omega
    have hgl := ba_get x (x.size - 1) hl
    have hsuf : Lib.hasSuffix x.data.toList [58] = true ↔ x[x.size - 1]'hl = 58 := by
      unfold Lib.hasSuffix
      rw [List.isSuffixOf_iff_suffix]
      constructor
      · rintro ⟨p, hp⟩
        have hpl : p.length = x.size - 1 := by
          have := congrArg List.length hp
          rw [hlen] at this
          simp at this
          omega
        rw [← hp, List.getElem?_append_right (by omega), hpl, Nat.sub_self] at hgl
        simpa using hgl.symm
      · intro e
        refine ⟨x.data.toList.take (x.size - 1), ?_⟩
        have h3 := List.take_succ_eq_append_getElem (l := x.data.toList) (i := x.size - 1) (by rw [hlen]; omega)
        rw [show x.size - 1 + 1 = x.size by omega, List.take_of_length_le (by rw [hlen]; exact Nat.le_refl _)] at h3
        have h4 := (List.getElem?_eq_some_iff.1 hgl).2
        rw [← e, ← h4]
        exact h3.symm
    have hcut : Lib.hasSuffix x.data.toList [58] = true → Lib.trimSuffix x.data.toList [58] = x.data.toList.take (x.size - 1) := fun e => by
      unfold Lib.trimSuffix
      rw [if_pos e, hlen]
      rfl
    obtain ⟨y, hy⟩ : ∃ y, x.extract 0 (x.size - 1) = y := ⟨_, rfl⟩
    have hyl : y.data.toList = x.data.toList.take (x.size - 1) := by
      rw [← hy, extract_list]
      simp
    have hyz : y.size ≤ 1000000 := by rw [← ba_len, hyl, List.length_take, hlen]; omega
    have d1 : decide ((x.size : Int) - 1 < 1) = false := by simp; omega
    obtain ⟨m, hm⟩ : ∃ m : Nat, x.size - 1 = m := ⟨_, rfl⟩
    have hmx : (x.size : Int) - 1 = (m : Int) := by omega
    have hm1 : m < x.size := by omega
    have d2 : decide ((m : Int) < 1) = false := by simp; omega
    have k0 : (0 : Int) ≤ (m : Int) := by omega
    have k1 : (m : Int) < (x.size : Int) := by omega
    have kw : IntKind.i64.wrap ((x.size : Int) - 1) = (m : Int) := by rw [IntKind.wrap_i64]; omega
    subst hm
    by_cases h58 : x[x.size - 1]'hl = 58
    · have hs2 := hsuf.2 h58
      have e1 : (((x[x.size - 1]'hl).toNat : Int) != 58) = false := by rw [h58]; rfl
      by_cases hnl : nameL y.data.toList = true
      · have HN := Lib.hid hnl
        have hnn : nmIn [x] = some y.data.toList := by
          unfold nmIn
          simp only
          rw [if_pos ⟨hs2, by rw [hcut hs2, ← hyl]; exact hnl⟩, hcut hs2, hyl]
        obtain ⟨rfl, rfl⟩ : nm = y ∧ t = true := by
          rcases hnm with ⟨h4, h5⟩ | ⟨h4, _⟩
          · rw [hnn] at h4
            injection h4 with h4
            exact ⟨ByteArray.ext (Array.toList_inj.1 h4.symm), h5⟩
          · rw [hnn] at h4; cases h4
        clear h no hnn hlen hgl hsuf hcut hyl hnl hs2 h58 hnm
        go_enter Tryz.func16, Tryz.ntmps16
        go_wp2_with (first
          | (go_at_call 35; (with_reducible refine (rname_is nm hyz true HN _).mono ?_); rintro e w1 ⟨rfl, hb⟩; have hc1 := (hb.cell (p := ⟨g, 0, none⟩) hg).trans hc))
        go_ret2
        exact ⟨rfl, hb⟩
      · have hnl2 : nameL y.data.toList = false := by simpa using hnl
        have HN := Lib.hid hnl2
        have hnn : nmIn [x] = none := by
          unfold nmIn
          simp only
          rw [if_neg]
          rintro ⟨_, h4⟩
          rw [hcut hs2, ← hyl] at h4
          exact hnl h4
        obtain ⟨rfl, rfl⟩ := no hnn
        clear h no hnn hlen hgl hsuf hcut hyl hnl hnl2 hs2 h58 hnm
        go_enter Tryz.func16, Tryz.ntmps16
        go_wp2_with (first
          | (go_at_call 35; (with_reducible refine (rname_is y hyz false HN _).mono ?_); rintro e w1 ⟨rfl, hb⟩; have hc1 := (hb.cell (p := ⟨g, 0, none⟩) hg).trans hc))
        go_ret2
        exact ⟨rfl, hb⟩
    · have e1 : (((x[x.size - 1]'hl).toNat : Int) != 58) = true := by
        rw [bne_iff_ne]
        intro e
        exact h58 (UInt8.toNat_inj.1 (by rw [show (58 : UInt8).toNat = 58 from rfl]; omega))
      have hnn : nmIn [x] = none := by
        unfold nmIn
        simp only
        rw [if_neg]
        rintro ⟨h4, _⟩
        exact h58 (hsuf.1 h4)
      obtain ⟨rfl, rfl⟩ := no hnn
      clear h no hnn hlen hgl hsuf hcut hyl h58 hnm
      go_enter Tryz.func16, Tryz.ntmps16
      go_wp2_with fail
      go_ret2
      exact ⟨rfl, Below.refl _ _⟩
  · have hnn : nmIn ws = none := by
      unfold nmIn
      match ws, hn.out with
      | [], _ => rfl
      | [x], h2 => exact absurd h2.symm h1
      | x :: y :: r, _ => rfl
    obtain ⟨rfl, rfl⟩ : nm = ⟨#[]⟩ ∧ t = false := by
      rcases hnm with ⟨h2, _⟩ | ⟨_, h2, h3⟩
      · rw [hnn] at h2; cases h2
      · exact ⟨h3, h2⟩
    have e1 : ((n : Int) != 1) = true := by rw [bne_iff_ne]; omega
    clear h hnn hnm h1
    go_enter Tryz.func16, Tryz.ntmps16
    go_wp2_with fail
    go_ret2
    exact ⟨rfl, Below.refl _ _⟩
end Go.Proofs.YtaekccgcnlepaaaGreatDoor
namespace Go.Proofs.YtaekccgcnlepaaaGreatDoor
open Go.ChangeShapes Go.WideShapes Go.ChangeAt Go.RowKit Go.Maps
set_option linter.unusedVariables false
set_option linter.unusedSimpArgs false
def codW (o : Option Nat) : Int := match o with | none => 0 | some e => 101 + (e : Int)
theorem codW_R (o : Option Nat) (h : CodeO o) : codR o = codW o := by
  rcases h with rfl | rfl | rfl | rfl <;> rfl
/-- All names, each with its line and its place. -/
def nlF : Nat → Nat → List ByteArray → List (List UInt8 × Nat × Nat)
  | _, _, [] => []
  | line, at', s :: r => match nmIn (tokB s) with
    | some nm => (nm, line, at') :: nlF (line + 1) at' r
    | none => nlF (line + 1) (if silentL (tokB s) = true then at' else at' + 1) r
def atF : Nat → List ByteArray → Nat
  | at', [] => at'
  | at', s :: r => match nmIn (tokB s) with
    | some _ => atF at' r
    | none => atF (if silentL (tokB s) = true then at' else at' + 1) r
def fnd (l : List (List UInt8 × Nat × Nat)) (nm : List UInt8) : Option (Int × Int) := (l.find? (fun t => decide (t.1 = nm))).map (fun t => ((t.2.1 : Int), (t.2.2 : Int)))
theorem nm_loud {ws : List ByteArray} {nm : List UInt8} (h : nmIn ws = some nm) : silentL ws = false := by
  unfold nmIn at h
  split at h
  · rename_i x
    split at h
    · rename_i hh
      obtain ⟨h1, h2⟩ := hh
      have hx : x.data.toList = Lib.trimSuffix x.data.toList [58] ++ [58] := by
        unfold Lib.trimSuffix
        rw [if_pos h1]
        unfold Lib.hasSuffix at h1
        rw [List.isSuffixOf_iff_suffix] at h1
        obtain ⟨p, hp⟩ := h1
        rw [← hp]
        simp
      cases hq : Lib.trimSuffix x.data.toList [58] with
      | nil => rw [hq] at h2; cases h2
      | cons b r =>
        rw [hq] at h2 hx
        have hb : inB 97 122 b = true := by
          unfold nameL at h2
          simp only [List.isEmpty_cons, Bool.not_false, Bool.true_and, List.all_cons, Bool.and_eq_true] at h2
          exact h2.1
        have hb2 : 97 ≤ b.toNat ∧ b.toNat ≤ 122 := by simpa [inB] using hb
        rw [sil_head x [] b (r ++ [58]) (by rw [hx]; rfl)]
        rw [beq_eq_false_iff_ne]
        intro e
        rw [e] at hb2
        exact absurd hb2.1 (by decide)
    · cases h
  · cases h
theorem ga_nl (ls : List ByteArray) : ∀ (line at' : Nat) (f : LF) (nm : List UInt8), (gaAll line (at', f) ls).2 nm = match f nm with | some y => some y | none => fnd (nlF line at' ls) nm := by
  induction ls with
  | nil =>
    intro line at' f nm
    show f nm = _
    cases f nm <;> rfl
  | cons s r ih =>
    intro line at' f nm
    show (gaAll (line + 1) (gaStep line (at', f) s) r).2 nm = _
    unfold gaStep
    rw [nlF]
    cases hn : nmIn (tokB s) with
    | none =>
      by_cases hs : silentL (tokB s) = true
      · rw [if_pos hs, ih, if_pos hs]
      · rw [if_neg hs, ih, if_neg hs]
    | some m =>
      rw [if_neg (by rw [nm_loud hn]; decide)]
      simp only
      by_cases hf : (f m).isSome = true
      · rw [if_pos hf, ih]
        cases hq : f nm with
        | some y => rfl
        | none =>
          have hne : m ≠ nm := fun e => by rw [e, hq] at hf; cases hf
          unfold fnd
          rw [List.find?_cons_of_neg (by simpa using hne)]
      · rw [if_neg hf, ih]
        unfold labU
        by_cases he : nm = m
        · subst he
          rw [if_pos rfl]
          have : f nm = none := by
            cases hq : f nm with
            | none => rfl
            | some y => rw [hq] at hf; exact absurd rfl hf
          rw [this]
          unfold fnd
          rw [List.find?_cons_of_pos (by simp)]
          rfl
        · rw [if_neg he]
          cases hq : f nm with
          | some y => rfl
          | none =>
            unfold fnd
            rw [List.find?_cons_of_neg (by simpa using Ne.symm he)]
theorem ga_all (ls : List ByteArray) (nm : List UInt8) : (gaAll 0 (0, fun _ => none) ls).2 nm = fnd (nlF 0 0 ls) nm := ga_nl ls 0 0 (fun _ => none) nm
theorem nlF_append (l2 : List ByteArray) : ∀ (l1 : List ByteArray) (line at' : Nat), nlF line at' (l1 ++ l2) = nlF line at' l1 ++ nlF (line + l1.length) (atF at' l1) l2 := by
  intro l1
  induction l1 with
  | nil => intro line at'; rfl
  | cons s r ih =>
    intro line at'
    rw [List.cons_append, nlF, nlF, atF]
    cases nmIn (tokB s) with
    | some m =>
      simp only
      rw [ih, List.cons_append, List.length_cons]
      congr 3
      omega
    | none =>
      simp only
      rw [ih, List.length_cons]
      congr 2
      omega
theorem nlF_lines (l : List ByteArray) : ∀ (line at' : Nat), ∀ t ∈ nlF line at' l, line ≤ t.2.1 ∧ t.2.1 < line + l.length := by
  induction l with
  | nil => intro line at' t ht; cases ht
  | cons s r ih =>
    intro line at' t ht
    rw [nlF] at ht
    rw [List.length_cons]
    cases hq : nmIn (tokB s) with
    | some m =>
      rw [hq] at ht
      rcases List.mem_cons.1 ht with rfl | ht
      · simp
      · have := ih _ _ t ht; omega
    | none =>
      rw [hq] at ht
      have := ih _ _ t ht; omega
theorem nlF_len (l : List ByteArray) : ∀ (line at' : Nat), (nlF line at' l).length ≤ l.length := by
  induction l with
  | nil => intro line at'; exact Nat.le_refl _
  | cons s r ih =>
    intro line at'
    rw [nlF]
    cases nmIn (tokB s) with
    | some m => have := ih (line + 1) at'; simp only [List.length_cons]; omega
    | none => have := ih (line + 1) (if silentL (tokB s) = true then at' else at' + 1); simp only [List.length_cons]; omega
theorem nlF_place (l : List ByteArray) : ∀ (line at' : Nat), ∀ t ∈ nlF line at' l, t.2.2 ≤ at' + l.length := by
  induction l with
  | nil => intro line at' t ht; cases ht
  | cons s r ih =>
    intro line at' t ht
    rw [nlF] at ht
    rw [List.length_cons]
    cases hq : nmIn (tokB s) with
    | some m =>
      rw [hq] at ht
      rcases List.mem_cons.1 ht with rfl | ht
      · simp
      · have := ih _ _ t ht; omega
    | none =>
      rw [hq] at ht
      have := ih _ _ t ht
      split at this <;> omega
/-- A name that stood ahead, or not: what Text and the document look at is the same. -/
theorem dup_line (pre post : List ByteArray) (s : ByteArray) (nm : List UInt8) (h : nmIn (tokB s) = some nm) :
    (((fnd (nlF 0 0 (pre ++ s :: post)) nm).getD (0, 0)).1 = (pre.length : Int)) ↔ ¬ ∃ t ∈ nlF 0 0 pre, t.1 = nm := by
  rw [nlF_append, nlF, h]
  unfold fnd
  rw [List.find?_append]
  cases hq : (nlF 0 0 pre).find? (fun t => decide (t.1 = nm)) with
  | some t =>
    have h1 := List.mem_of_find?_eq_some hq
    have h2 := List.find?_some hq
    have h3 := nlF_lines pre 0 0 t h1
    constructor
    · intro e
      simp at e
      omega
    · intro e
      exact absurd ⟨t, h1, by simpa using h2⟩ e
  | none =>
    have h1 := List.find?_eq_none.1 hq
    constructor
    · rintro - ⟨t, ht, e⟩
      exact h1 t ht (by simpa using e)
    · intro _
      simp
theorem op_name {l : List UInt8} {k : Nat} (h : opL l = k) (hk : k ≠ 0) : l = fNm.getD k [] := by
  unfold opL idxL at h
  cases hq : fNm.findIdx? (fun x => decide (x = l)) with
  | none => rw [hq] at h; exact absurd h.symm hk
  | some i =>
    rw [hq] at h
    obtain rfl : i = k := h
    rw [List.findIdx?_eq_some_iff_getElem] at hq
    obtain ⟨h1, h2, _⟩ := hq
    have : fNm[i] = l := by simpa using h2
    rw [← this]
    simp [List.getD, h1]
theorem opW_cons (ws : List ByteArray) (h : 0 < ws.length) : opW ws = opL (ws.getD 0 ⟨#[]⟩).data.toList := by
  cases ws with
  | nil => cases h
  | cons x r => rfl
/-- Is it a jump to a name? -/
def JmpN (ws : List ByteArray) : Prop := ((ws.getD 0 ⟨#[]⟩).data.toList = [106, 109, 112] ∧ ws.length = 2 ∧ nameL (ws.getD 1 ⟨#[]⟩).data.toList = true) ∨ ((ws.getD 0 ⟨#[]⟩).data.toList = [106, 122] ∧ ws.length = 3 ∧ nameL (ws.getD 2 ⟨#[]⟩).data.toList = true)
theorem vn_lit (F : LF) (op : Nat) (l : List UInt8) (h : nameL l = false) : valN F op 110 l = valK 110 l := by
  unfold valN
  by_cases ho : op = 4 ∨ op = 5
  · rw [if_pos ⟨rfl, ho⟩]
    unfold numS
    rw [if_neg (by rw [h]; decide)]
    rfl
  · rw [if_neg (fun e => ho e.2)]
theorem run_congr (vv v2 : Nat → Int × Option Nat) : ∀ (ks : List UInt8) (j : Nat) (st : List Int × Int), (∀ i, i < ks.length → vv (j + i) = v2 (j + i)) → runV vv ks j st = runV v2 ks j st := by
  intro ks
  induction ks with
  | nil => intro j st _; rfl
  | cons k ks ih =>
    intro j st h
    have h0 := h 0 (by simp)
    rw [Nat.add_zero] at h0
    rw [runV, runV, h0]
    cases (v2 j).2 with
    | some e => rfl
    | none => exact ih (j + 1) _ (fun i hi => by have := h (i + 1) (by simp; omega); rwa [show j + (i + 1) = j + 1 + i by omega] at this)
/-- Of no jump to a name: as the line by itself. -/
theorem par_line (F : LF) (s : ByteArray) (hn : 0 < (tokB s).length) (hJ : ¬ JmpN (tokB s)) : parN F (tokB s) = lineV s := by
  unfold parN lineV parseV
  by_cases hc : opW (tokB s) = 0 ∨ (tokB s).length ≠ 1 + (aWd.getD (opW (tokB s)) []).length
  · rw [if_pos hc, if_pos hc]
  rw [if_neg hc, if_neg hc]
  congr 1
  have hw := opW_cons (tokB s) hn
  by_cases h4 : opW (tokB s) = 4
  · have hl : (tokB s).length = 2 := by rw [h4] at hc; have : (aWd.getD 4 []).length = 1 := rfl; omega
    have hnm : nameL ((tokB s).getD 1 ⟨#[]⟩).data.toList = false := by
      cases hq : nameL ((tokB s).getD 1 ⟨#[]⟩).data.toList with
      | false => rfl
      | true => exact absurd (.inl ⟨op_name (by rw [← hw, h4]) (by decide), hl, hq⟩) hJ
    rw [h4]
    refine run_congr _ _ _ _ _ (fun i hi => ?_)
    obtain rfl : i = 0 := by replace hi : i < 1 := hi; omega
    exact vn_lit F 4 _ hnm
  by_cases h5 : opW (tokB s) = 5
  · have hl : (tokB s).length = 3 := by rw [h5] at hc; have : (aWd.getD 5 []).length = 2 := rfl; omega
    have hnm : nameL ((tokB s).getD 2 ⟨#[]⟩).data.toList = false := by
      cases hq : nameL ((tokB s).getD 2 ⟨#[]⟩).data.toList with
      | false => rfl
      | true => exact absurd (.inr ⟨op_name (by rw [← hw, h5]) (by decide), hl, hq⟩) hJ
    rw [h5]
    refine run_congr _ _ _ _ _ (fun i hi => ?_)
    rcases (show i = 0 ∨ i = 1 by replace hi : i < 2 := hi; omega) with rfl | rfl
    · show valN F 5 114 _ = valK 114 _
      unfold valN
      rw [if_neg (by rintro ⟨e, _⟩; exact absurd e (by decide))]
    · exact vn_lit F 5 _ hnm
  · refine run_congr _ _ _ _ _ (fun i hi => ?_)
    show valN F _ _ _ = valK _ _
    unfold valN
    rw [if_neg (by rintro ⟨_, e | e⟩; exact h4 e; exact h5 e)]
/-- What parN says of jmp and a name. -/
theorem par_jmp (F : LF) (ws : List ByteArray) (h0 : (ws.getD 0 ⟨#[]⟩).data.toList = [106, 109, 112]) (hl : ws.length = 2) (hn : nameL (ws.getD 1 ⟨#[]⟩).data.toList = true) :
    parN F ws = match F (ws.getD 1 ⟨#[]⟩).data.toList with | some p => endR (4, 0, 0, 0, p.2) | none => ((0, 0, 0, 0, 0), some 4) := by
  have ho : opW ws = 4 := by rw [opW_cons ws (by omega), h0]; decide +kernel
  unfold parN parseV
  rw [ho, if_neg (by rw [hl]; decide)]
  have hv : valN F 4 110 (ws.getD 1 ⟨#[]⟩).data.toList = plS F (ws.getD 1 ⟨#[]⟩).data.toList := by
    unfold valN
    rw [if_pos ⟨rfl, .inl rfl⟩]
    unfold numS
    rw [if_pos hn]
  show insV 4 (runV (fun j => valN F 4 ((aWd.getD 4 []).getD j 0) (ws.getD (1 + j) ⟨#[]⟩).data.toList) [110] 0 ([], 0)) = _
  cases hF : F (ws.getD 1 ⟨#[]⟩).data.toList with
  | some p =>
    rw [run_step _ _ _ _ _ p.2 (show valN F 4 110 (ws.getD 1 ⟨#[]⟩).data.toList = (p.2, none) by rw [hv]; unfold plS; rw [hF])]
    rfl
  | none =>
    rw [run_stop _ _ _ _ _ 0 4 (show valN F 4 110 (ws.getD 1 ⟨#[]⟩).data.toList = (0, some 4) by rw [hv]; unfold plS; rw [hF])]
    rfl
/-- .. of jz, a register and a name. -/
theorem par_jz (F : LF) (ws : List ByteArray) (h0 : (ws.getD 0 ⟨#[]⟩).data.toList = [106, 122]) (hl : ws.length = 3) (hn : nameL (ws.getD 2 ⟨#[]⟩).data.toList = true) :
    parN F ws = match opdO 114 (ws.getD 1 ⟨#[]⟩).data.toList with | none => ((0, 0, 0, 0, 0), some 11) | some a => match F (ws.getD 2 ⟨#[]⟩).data.toList with | some p => endR (5, (a : Int), 0, 0, p.2) | none => ((0, 0, 0, 0, 0), some 4) := by
  have ho : opW ws = 5 := by rw [opW_cons ws (by omega), h0]; decide +kernel
  unfold parN parseV
  rw [ho, if_neg (by rw [hl]; decide)]
  have hv : valN F 5 110 (ws.getD 2 ⟨#[]⟩).data.toList = plS F (ws.getD 2 ⟨#[]⟩).data.toList := by
    unfold valN
    rw [if_pos ⟨rfl, .inr rfl⟩]
    unfold numS
    rw [if_pos hn]
  have hr : valN F 5 114 (ws.getD 1 ⟨#[]⟩).data.toList = valK 114 (ws.getD 1 ⟨#[]⟩).data.toList := by
    unfold valN
    rw [if_neg (by rintro ⟨e, _⟩; exact absurd e (by decide))]
  rw [valK_opd 114 (by decide)] at hr
  show insV 5 (runV (fun j => valN F 5 ((aWd.getD 5 []).getD j 0) (ws.getD (1 + j) ⟨#[]⟩).data.toList) [114, 110] 0 ([], 0)) = _
  cases ha : opdO 114 (ws.getD 1 ⟨#[]⟩).data.toList with
  | none =>
    rw [ha] at hr
    rw [run_stop _ _ _ _ _ 0 11 hr]
    rfl
  | some a =>
    rw [ha] at hr
    rw [run_step _ _ _ _ _ (a : Int) hr]
    cases hF : F (ws.getD 2 ⟨#[]⟩).data.toList with
    | some p =>
      rw [run_step _ _ _ _ _ p.2 (show valN F 5 110 (ws.getD 2 ⟨#[]⟩).data.toList = (p.2, none) by rw [hv]; unfold plS; rw [hF])]
      rfl
    | none =>
      rw [run_stop _ _ _ _ _ 0 4 (show valN F 5 110 (ws.getD 2 ⟨#[]⟩).data.toList = (0, some 4) by rw [hv]; unfold plS; rw [hF])]
      rfl
/-- A word's value in a line that is neither silent nor a name. -/
def outW (x : (Int × Int × Int × Int × Int) × Option Nat) : (Int × Bool) × Option Nat := match x with
  | (_, some e) => ((0, false), some e)
  | ((a0, a1, a2, a3, a4), none) => ((wordC a0 a1 a2 a3 a4, true), none)
theorem wd_rest (F : LF) (line : Nat) (ws : List ByteArray) (h1 : silentL ws = false) (h2 : nmIn ws = none) (h3 : ¬ ((ws.getD 0 ⟨#[]⟩).data.toList = [119, 111, 114, 100] ∧ ws.length = 2)) : wdV F line ws = outW (parN F ws) := by
  unfold wdV
  rw [if_neg (by rw [h1]; decide), h2]
  simp only
  rw [if_neg h3]
  rfl
theorem wd_num (F : LF) (line : Nat) (ws : List ByteArray) (h1 : silentL ws = false) (h2 : nmIn ws = none) (h3 : (ws.getD 0 ⟨#[]⟩).data.toList = [119, 111, 114, 100]) (h4 : ws.length = 2) : wdV F line ws = (((decS2 (ws.getD 1 ⟨#[]⟩).data.toList).1, true), (decS2 (ws.getD 1 ⟨#[]⟩).data.toList).2) := by
  unfold wdV
  rw [if_neg (by rw [h1]; decide), h2]
  simp only
  rw [if_pos ⟨h3, h4⟩]
theorem par_word (F : LF) (ws : List ByteArray) (hn : 0 < ws.length) (h3 : (ws.getD 0 ⟨#[]⟩).data.toList = [119, 111, 114, 100]) : parN F ws = ((0, 0, 0, 0, 0), some 10) := by
  unfold parN parseV
  rw [if_pos (.inl (by rw [opW_cons ws hn, h3]; decide +kernel))]
/-- Where a name leads: less than 0: nowhere. -/
def toV (o : Option (Int × Int)) : Int := match o with | some p => p.2 | none => -1
theorem to_step (l : List (List UInt8 × Nat × Nat)) (nm : List UInt8) (k : Nat) (hk : k < l.length) :
    toV (fnd (l.take (k + 1)) nm) = if (l[k]).1 = nm ∧ toV (fnd (l.take k) nm) < 0 then ((l[k]).2.2 : Int) else toV (fnd (l.take k) nm) := by
  rw [List.take_succ_eq_append_getElem hk]
  unfold fnd
  rw [List.find?_append]
  cases hq : (l.take k).find? (fun t => decide (t.1 = nm)) with
  | some t =>
    rw [if_neg]
    · rfl
    · rintro ⟨_, h⟩
      simp [toV] at h
      omega
  | none =>
    by_cases he : (l[k]).1 = nm
    · rw [if_pos ⟨he, by simp [toV]⟩]
      simp [he, toV]
    · rw [if_neg (fun e => he e.1)]
      simp [he, toV]
end Go.Proofs.YtaekccgcnlepaaaGreatDoor
namespace Go.Proofs.YtaekccgcnlepaaaGreatDoor
open Go.ChangeShapes Go.WideShapes Go.ChangeAt Go.RowKit
open Go.Sort
set_option linter.unusedVariables false
abbrev encB : UInt8 → Value := fun b => Value.int .u8 (b.toNat : Int)
theorem holds_zero0 (w : World) (T : TypeId) (nd : Nat) (hs : nd ≤ 24) : Holds encB (w.alloc (.cells Lib.zeros24 T)) w.heap.size 0 (Array.replicate nd (0 : UInt8)) := fun j hj => by
  have hj' : j < nd := by simpa using hj
  refine ⟨?_, World.frozen?_alloc_new _ _ _ _⟩
  rw [World.cell?_alloc_new, Lib.zeros24_at _ (by omega), getElem!_pos _ j hj]
  simp [encB]
theorem putRow0_below (w : World) (o : Obj) (dk : Array UInt8) (k : Nat) : Below w.heap.size w ((putRow encB (w.alloc o) w.heap.size 0 dk).drewN k) := by
  rw [alloc_eq_grow]
  obtain ⟨os', _, e⟩ := putRow_grow_new encB w #[o] w.heap.size 0 dk (Nat.le_refl _)
  rw [e]
  have hb : Below w.heap.size w (grow w os') := ⟨rfl, rfl, rfl, by simp [grow], fun i hi => by
    show (w.heap ++ os')[i]? = _
    rw [Array.getElem?_append_left hi]⟩
  exact below_dN2 hb k
set_option maxRecDepth 100000 in
set_option maxHeartbeats 4000000 in
theorem ifmtuint_any (u : Nat) (hu64 : u < 18446744073709551616) (w : World) (htab : Lib.TabIs Tryz.prog w "internal/strconv.uint64pow10" .u64 Lib.pow10Tab) :
    Calls Tryz.prog 43 #[.int .u64 u, .int .i64 10] w fun e w' => e = .returned (.string ⟨(Lib.decDigits u).toArray⟩) ∧ Below w.heap.size w w' := by
  by_cases hs : u < 100
  · go_enter Tryz.func43, Tryz.ntmps43
    go_wp2_with (go_at_call 62; refine (Go.Proofs.Tryz.internal_strconv_small u hs _).mono ?_; rintro e w' ⟨rfl, rfl⟩)
    go_ret
    exact ⟨rfl, Below.refl _ _⟩
  · have hu1 : 1 ≤ u := by omega
    have hnd20 : Lib.nDigits u ≤ 20 := by have := Lib.numDigits_eq u hu1 hu64; split at this <;> omega
    have hal : Tryz.prog.arrayLen 118 = 24 := by kernel_rfl
    have hH0 := holds_zero0 w 118 (Lib.nDigits u) (by omega)
    have hfmt := Go.Proofs.Tryz.internal_strconv_formatBase10 w.heap.size 0 24 u (Array.replicate (Lib.nDigits u) 0) (w.alloc (.cells Lib.zeros24 118)) hH0 (by rw [Array.size_replicate]; exact Lib.lt_pow_nDigits u) hu64 (by rw [Array.size_replicate]; omega)
    rw [Array.size_replicate] at hfmt
    have HH0 := Lib.hid hH0
    clear hH0
    have hsl : ∀ W, (Instr.sliceAt 118 (.pointer (some ⟨w.heap.size, 0, none⟩)) none (some (.int .i64 (Lib.nDigits u : Int))) none).run Tryz.prog W = .ok (.slice (some ⟨w.heap.size, 0, none⟩) (Lib.nDigits u) 24) W := fun W => by
      rw [run_sliceAt_array_h W 118 ⟨w.heap.size, 0, none⟩ (by kernel_rfl) .i64 (Lib.nDigits u : Int) (by omega) (by rw [hal]; omega), hal]
      go_simp
    clear hal
    go_enter Tryz.func43, Tryz.ntmps43
    go_wp2_with (first | (go_at_call 63; refine (Go.Proofs.Tryz.internal_strconv_numDigits u hu1 hu64 _ (Lib.tabIs_alloc htab _)).mono ?_; rintro e w' ⟨rfl, rfl⟩))
    refine hfmt.mono ?_
    rintro e w' ⟨rfl, k, v', dk, rfl, hF⟩
    have hcv : (convert 121 9 (.slice (some ⟨w.heap.size, 0, none⟩) (Lib.nDigits u) 24)).run Tryz.prog ((putRow encB (w.alloc (.cells Lib.zeros24 118)) w.heap.size 0 dk).drewN k) = .ok (.string ⟨(Lib.decDigits u).toArray⟩) ((putRow encB (w.alloc (.cells Lib.zeros24 118)) w.heap.size 0 dk).drewN k) := by
      have h := run_convert_bytes_back (P := Tryz.prog) ((putRow encB (w.alloc (.cells Lib.zeros24 118)) w.heap.size 0 dk).drewN k) 121 9 5 ⟨w.heap.size, 0, none⟩ 24 (Lib.decDigits u) (by kernel_rfl) (by kernel_rfl) (by kernel_rfl) (fun j hj => by
        rw [Lib.row_is_numeral hF j hj, Lib.add_plain, World.cell?_drewN]
        exact cell?_putRow encB _ w.heap.size 0 _ dk HH0.out (by rw [hF.size, Array.size_replicate]) j (by rw [hF.size]; rw [Lib.decDigits_length] at hj; exact hj))
      rw [Lib.decDigits_length] at h
      exact h
    have hbel := putRow0_below w (.cells Lib.zeros24 118) dk k
    have HB := Lib.hid hbel
    clear hbel HH0 htab
    go_wp2
    go_ret
    exact ⟨rfl, HB.out⟩
theorem fmtuint_any (u : Nat) (hu64 : u < 18446744073709551616) (w : World) (htab : Lib.TabIs Tryz.prog w "internal/strconv.uint64pow10" .u64 Lib.pow10Tab) :
    Calls Tryz.prog 23 #[.int .u64 u, .int .i64 10] w fun e w' => e = .returned (.string ⟨(Lib.decDigits u).toArray⟩) ∧ Below w.heap.size w w' := by
  go_enter Tryz.func23, Tryz.ntmps23
  go_wp2_with (go_at_call 43; refine (ifmtuint_any u hu64 _ htab).mono ?_; rintro e w' ⟨rfl, hb⟩)
  go_ret
  exact ⟨rfl, hb⟩
end Go.Proofs.YtaekccgcnlepaaaGreatDoor
namespace Go.Proofs.YtaekccgcnlepaaaGreatDoor
open Go.ChangeShapes Go.WideShapes Go.ChangeAt Go.RowKit Go.Maps
set_option linter.unusedVariables false
set_option linter.unusedSimpArgs false
/-- Words in a row. -/
def RU (w : World) (a : Option Addr) (xs : List Int) : Prop := ∀ j, j < xs.length → ∃ ad, a = some ad ∧ ad.block < w.heap.size ∧ w.cell? (ad.add j) = some (.int .u32 (xs.getD j 0))
theorem RU.below {w w' : World} {a : Option Addr} {xs : List Int} (h : RU w a xs) (hb : Below w.heap.size w w') : RU w' a xs := by
  intro i hi
  obtain ⟨ad, h1, h2, h3⟩ := h i hi
  exact ⟨ad, h1, Nat.lt_of_lt_of_le h2 hb.size, (hb.cell (p := ad.add i) (by rw [add_blockL]; exact h2)).trans h3⟩
theorem own_ru {w : World} {B n c : Nat} {a : Option Addr} {xs : List Int} (h : w.ownsRow B 38 1 (.slice a n c) n (xs.map u32)) (hn : xs.length = n) : RU w a xs := by
  intro i hi
  rcases h.2 with ⟨_, h0⟩ | ⟨g, cap, cur, hv, hB, hg, rest⟩
  · omega
  · obtain rfl : a = some ⟨g, 0, none⟩ := by simp at hv; exact hv.1
    refine ⟨_, rfl, (h.lt g rfl).2, ?_⟩
    have := h.cellAt i (by omega)
    rw [show (Addr.add ⟨g, 0, none⟩ i) = ⟨g, i, none⟩ by (unfold Addr.add; split <;> simp_all), this]
    simp [List.getD, hi, u32]
set_option maxRecDepth 100000 in
theorem samewords_yes (a b : Option Addr) (ca cb n : Nat) (xs : List Int) (hn : Hid (xs.length = n)) (hm : n ≤ 1000000) (w : World) (hx : RU w a xs) (hy : RU w b xs) :
    Calls Tryz.prog 9 #[.slice a n ca, .slice b n cb] w fun e w' => e = .returned (.bool true) ∧ Below w.heap.size w w' := by
  have HX := Lib.hid hx
  have HY := Lib.hid hy
  clear hx hy
  go_enter Tryz.func9, Tryz.ntmps9
  go_wp2_with fail
  go_loopw [5] (fun i wr => ∃ k : Nat, k ≤ n ∧ i = .int .i64 k ∧ Below w.heap.size w wr) (fun i _ => n - (intOf i).toNat)
  case atStart => exact ⟨0, by omega, rfl, Below.refl _ _⟩
  case round =>
    obtain ⟨k, hk, rfl, hb⟩ := hrel
    have HB := Lib.hid hb
    by_cases hlt : k < n
    · obtain ⟨ad, rfl, h1, c1⟩ := (HX.out.below hb) k (by rw [hn.out]; exact hlt)
      obtain ⟨bd, rfl, h2, c2⟩ := (HY.out.below hb) k (by rw [hn.out]; exact hlt)
      generalize xs.getD k 0 = x at c1 c2
      have k0 : (0 : Int) ≤ (k : Int) := by omega
      have k1 : (k : Int) < (n : Int) := by omega
      clear hb h1 h2
      go_wp2_with fail
      go_quiet (fail)
      go_wp2
      go_roundw
      case rel => exact ⟨k + 1, by omega, by go_num, below_dN2 HB.out _⟩
      case measure => simp [intOf]; omega
    · obtain rfl : n = k := by omega
      have hdd : decide (n < n) = false := by simp
      clear hb
      go_wp2_with fail
      go_ret
      exact ⟨rfl, HB.out⟩
theorem cell_new2 (w : World) (o : Obj) (a : Value) (t : TypeId) : ∀ j u, [a][j]? = some u → ((w.alloc o).alloc (.cells #[a] t)).cell? ((⟨w.heap.size + 1, 0, none⟩ : Addr).add j) = some u := by
  have h := cell_one_new (w.alloc o) a t
  rw [show (w.alloc o).heap.size = w.heap.size + 1 by simp] at h
  exact h
theorem parts_of (x : Int) : PartsC x (x / 16777216) (x / 1048576 % 16) (x / 65536 % 16) (x / 4096 % 16) (x % 4096) := ⟨rfl, rfl, rfl, rfl, rfl⟩
set_option maxRecDepth 100000 in
set_option maxHeartbeats 4000000 in
theorem show_is {A : Nat → Addr} (a : Option Addr) (c m : Nat) (xs : List Int) (hn : Hid (xs.length = m)) (hm1 : m ≤ 1000) (hx : Hid (∀ i, i < m → 0 ≤ xs.getD i 0 ∧ xs.getD i 0 ≤ 4294967295)) (w : World) (hA : AsmAt A w) (hT : Tells w) (hL : RU w a xs) :
    Calls Tryz.prog 10 #[.slice a m c] w fun e w' => ∃ ad cp, e = .returned (.slice ad m cp) ∧ LR w w' w.heap.size (.slice ad m cp) (xs.map showW) m := by
  have HA := Lib.hid hA
  have HT := Lib.hid hT
  have HR := Lib.hid hL
  obtain ⟨i0, hi, hz0, hz1, hz2⟩ := info_parts infoStr
  have HI := Lib.hid (⟨hi, hz0, hz1, hz2⟩ : Tryz.prog.info? 9 = some i0 ∧ i0.zero = some (.string ⟨#[]⟩) ∧ i0.size = 1 ∧ i0.bytes = 16)
  have HW1 : Hid (w.heap.size ≤ w.heap.size ∧ w.heap.size ≤ w.heap.size) := Lib.hid ⟨Nat.le_refl _, Nat.le_refl _⟩
  clear hA hT hL hi hz0 hz1 hz2
  go_enter Tryz.func10, Tryz.ntmps10
  go_wp2_with fail
  go_loopw [3, 11] (fun lv i wr => ∃ (k cp : Nat) (ad : Option Addr), k ≤ m ∧ i = .int .i64 k ∧ lv = .slice ad k cp ∧ LR w wr w.heap.size (.slice ad k cp) ((xs.take k).map showW) k ∧ w.heap.size ≤ wr.heap.size) (fun _ i _ => m - (intOf i).toNat)
  case atStart => exact ⟨0, 0, none, by omega, rfl, rfl, ⟨World.ownsRow_nil _ _ _ _, Below.refl _ _, rfl, Nat.le_refl _⟩, Nat.le_refl _⟩
  case round =>
    obtain ⟨k, cp, ad, hk, rfl, rfl, hLR, hsz⟩ := hrel
    have HL := Lib.hid hLR
    by_cases hlt : k < m
    · obtain ⟨adx, rfl, h1, cx⟩ := (HR.out.below hLR.bel) k (by rw [hn.out]; exact hlt)
      obtain ⟨h0, h2⟩ := hx.out k hlt
      obtain ⟨x, hxx⟩ : ∃ x, xs.getD k 0 = x := ⟨_, rfl⟩
      rw [hxx] at cx h0 h2
      obtain ⟨u, rfl⟩ : ∃ u : Nat, x = u := ⟨x.toNat, by omega⟩
      have hu : u < 4294967296 := by omega
      have HTk : Hid ((xs.take k).map showW ++ [showW (u : Int)] = (xs.take (k + 1)).map showW) := Lib.hid (by
        have hkl : k < xs.length := by rw [hn.out]; exact hlt
        rw [List.take_succ_eq_append_getElem hkl, List.map_append]
        simp [List.getD, hkl] at hxx
        rw [hxx]
        rfl)
      obtain ⟨d, hd⟩ : ∃ d : ByteArray, d = ⟨(Lib.decDigits u).toArray⟩ := ⟨_, rfl⟩
      have hds : d.size ≤ 20 := by
        have := dec_size u (by omega)
        unfold decS at this
        rw [Int.toNat_natCast] at this
        rw [hd]; exact this
      have z1 : (⟨#[119, 111, 114, 100, 32]⟩ : ByteArray).size = 5 := rfl
      obtain ⟨s1, hs1⟩ : ∃ s1, (⟨#[119, 111, 114, 100, 32]⟩ : ByteArray) ++ d = s1 := ⟨_, rfl⟩
      have f1 := cat_run ⟨#[119, 111, 114, 100, 32]⟩ d (by omega)
      rw [hs1] at f1
      have HS1 : Hid (s1 = wordS u) := Lib.hid (by
        rw [← hs1, hd]
        apply ByteArray.ext
        simp [wordS])
      have HD : Hid (d = ⟨(Lib.decDigits u).toArray⟩) := Lib.hid hd
      obtain ⟨p0, hp0⟩ : ∃ p, (u : Int) / 16777216 = p := ⟨_, rfl⟩
      obtain ⟨p1, hp1⟩ : ∃ p, (u : Int) / 1048576 % 16 = p := ⟨_, rfl⟩
      obtain ⟨p2, hp2⟩ : ∃ p, (u : Int) / 65536 % 16 = p := ⟨_, rfl⟩
      obtain ⟨p3, hp3⟩ : ∃ p, (u : Int) / 4096 % 16 = p := ⟨_, rfl⟩
      obtain ⟨p4, hp4⟩ : ∃ p, (u : Int) % 4096 = p := ⟨_, rfl⟩
      have HP : Hid (PartsC (u : Int) p0 p1 p2 p3 p4) := Lib.hid ⟨hp0, hp1, hp2, hp3, hp4⟩
      have HSh : Hid (showW (u : Int) = if okB p0 p1 p2 p3 p4 = true then textC p0 p1 p2 p3 p4 else wordS u) := Lib.hid (by
        unfold showW
        rw [hp0, hp1, hp2, hp3, hp4, Int.toNat_natCast])
      have k0 : (0 : Int) ≤ (k : Int) := by omega
      have k1 : (k : Int) < (m : Int) := by omega
      have HSz : Hid (w.heap.size ≤ wr.heap.size) := Lib.hid hsz
      clear hLR hsz h1 hxx hd z1 hs1 hp0 hp1 hp2 hp3 hp4 hds
      cases hok : okB p0 p1 p2 p3 p4
      · have HSh2 : Hid (s1 = showW (u : Int)) := Lib.hid (by rw [HSh.out, hok, if_neg (by simp), HS1.out])
        have HOk := Lib.hid hok
        clear hok
        go_wp2_with (first
          | (go_at_call 23; (with_reducible refine (fmtuint_any u (by omega) _ (HT.out.below HL.out.bel).tab).mono ?_); rw [← HD.out]; rintro e w3 ⟨rfl, hb⟩; have HL3 := Lib.hid (HL.out.below hb); have HS3 := Lib.hid (Nat.le_trans HSz.out hb.size); clear hb)
          | (go_at_call 24; (with_reducible refine (cread_no (u : Int) p0 p1 p2 p3 p4 _ _ _ (HA.out.below HL3.out.bel).code (by omega) (by omega) HP HOk).mono ?_); rintro e w4 ⟨rfl, hb⟩; have HL4 : Hid (LR w (w4.alloc (.cells #[.int .i64 0, .int .i64 0, .int .i64 0, .int .i64 0, .int .i64 0] 62)) w.heap.size (.slice ad k cp) ((xs.take k).map showW) k) := Lib.hid ((HL3.out.below hb).below ((Below.refl _ _).alloc (Nat.le_refl _) _)); have HS4 : Hid (w.heap.size ≤ (w4.alloc (.cells #[.int .i64 0, .int .i64 0, .int .i64 0, .int .i64 0, .int .i64 0] 62)).heap.size) := Lib.hid (Nat.le_trans (Nat.le_trans HS3.out hb.size) (by simp)); have HC4 := Lib.hid (cell_new2 w4 (.cells #[.int .i64 0, .int .i64 0, .int .i64 0, .int .i64 0, .int .i64 0] 62) (.string s1) 9); clear hb)
          | (at_builtin; refine wpList_append_own_at _ rfl _ _ 22 rfl w.heap.size 9 i0 (.string ⟨#[]⟩) 1 16 Tryz.underlying22 HI.out.1 HI.out.2.1 HI.out.2.2.1 HI.out.2.2.2 rfl (by decide) _ k _ rfl (HL4.out.row.alloc _) ⟨w4.heap.size + 1, 0, none⟩ 1 1 [.string s1] rfl rfl HC4.out (strs_one [s1]) (by unfold maxLen; omega) (by omega) (by have := HS4.out; simp at this ⊢; omega) ?_; intro v2 w4 hrow hg3 hnil hloc; have HX := Lib.hid (HL4.out.more (l2 := [s1]) rfl hrow hg3); have HXS := Lib.hid (Nat.le_trans (Nat.le_trans HS4.out ((Below.refl _ _).alloc (Nat.le_refl _) _).size) hg3.size); clear hrow hg3 hnil hloc))
        go_roundw
        case rel =>
          have hx := HX.out
          rw [HSh2.out, HTk.out] at hx
          obtain ⟨a3, c3, hv3⟩ := owns_shp hx.row
          rw [hv3] at hx
          exact ⟨k + 1, c3, a3, by omega, by go_num, hv3, hx, HXS.out⟩
        case measure => simp [intOf]; omega
      · obtain ⟨t2, ht2⟩ : ∃ t2, Hid (textC p0 p1 p2 p3 p4 = t2) := ⟨_, Lib.hid rfl⟩
        have HSh2 : Hid (t2 = showW (u : Int)) := Lib.hid (by rw [HSh.out, hok, if_pos rfl, ht2.out])
        have HOk := Lib.hid hok
        clear hok
        go_wp2_with (first
          | (go_at_call 23; (with_reducible refine (fmtuint_any u (by omega) _ (HT.out.below HL.out.bel).tab).mono ?_); rw [← HD.out]; rintro e w3 ⟨rfl, hb⟩; have HL3 := Lib.hid (HL.out.below hb); have HS3 := Lib.hid (Nat.le_trans HSz.out hb.size); clear hb)
          | (go_at_call 24; (with_reducible refine (cread_ok (u : Int) p0 p1 p2 p3 p4 _ _ _ (HA.out.below HL3.out.bel).code (by omega) (by omega) HP HOk).mono ?_); rintro e w4 ⟨rfl, hb⟩; have HL4 : Hid (LR w (w4.alloc (.cells #[.int .i64 p0, .int .i64 p1, .int .i64 p2, .int .i64 p3, .int .i64 p4] 62)) w.heap.size (.slice ad k cp) ((xs.take k).map showW) k) := Lib.hid ((HL3.out.below hb).below ((Below.refl _ _).alloc (Nat.le_refl _) _)); have HS4 : Hid (w.heap.size ≤ (w4.alloc (.cells #[.int .i64 p0, .int .i64 p1, .int .i64 p2, .int .i64 p3, .int .i64 p4] 62)).heap.size) := Lib.hid (Nat.le_trans (Nat.le_trans HS3.out hb.size) (by simp)); clear hb)
          | (go_at_call 25; (with_reducible refine (ctext_right p0 p1 p2 p3 p4 _ _ _ (HA.out.below HL4.out.bel).code (HT.out.below HL4.out.bel) HOk t2 ht2).mono ?_); rintro e w5 ⟨rfl, hb⟩; have HL5 := Lib.hid (HL4.out.below hb); have HS5 := Lib.hid (Nat.le_trans HS4.out hb.size); clear hb)
          | (at_builtin; refine wpList_append_own_at _ rfl _ _ 22 rfl w.heap.size 9 i0 (.string ⟨#[]⟩) 1 16 Tryz.underlying22 HI.out.1 HI.out.2.1 HI.out.2.2.1 HI.out.2.2.2 rfl (by decide) _ k _ rfl (HL5.out.row.alloc _) ⟨w5.heap.size, 0, none⟩ 1 1 [.string t2] rfl rfl (cell_one_new _ _ _) (strs_one [t2]) (by unfold maxLen; omega) (by omega) (by have := HS5.out; simp at this ⊢; omega) ?_; intro v2 w4 hrow hg3 hnil hloc; have HX := Lib.hid (HL5.out.more (l2 := [t2]) rfl hrow hg3); have HXS := Lib.hid (Nat.le_trans (Nat.le_trans HS5.out ((Below.refl _ _).alloc (Nat.le_refl _) _).size) hg3.size); clear hrow hg3 hnil hloc))
        go_roundw
        case rel =>
          have hx := HX.out
          rw [HSh2.out, HTk.out] at hx
          obtain ⟨a3, c3, hv3⟩ := owns_shp hx.row
          rw [hv3] at hx
          exact ⟨k + 1, c3, a3, by omega, by go_num, hv3, hx, HXS.out⟩
        case measure => simp [intOf]; omega
    · obtain rfl : m = k := by omega
      have hdd : decide (m < m) = false := by simp
      have hTk : xs.take m = xs := List.take_of_length_le (by rw [hn.out]; exact Nat.le_refl _)
      have hl2 := HL.out
      rw [hTk] at hl2
      have HL2 := Lib.hid hl2
      clear hLR hsz hTk hl2
      go_wp2_with fail
      go_ret
      exact ⟨ad, cp, rfl, HL2.out⟩
end Go.Proofs.YtaekccgcnlepaaaGreatDoor
namespace Go.Proofs.YtaekccgcnlepaaaGreatDoor
open Go.ChangeShapes Go.WideShapes Go.ChangeAt Go.RowKit
set_option linter.unusedVariables false
set_option maxRecDepth 100000 in
set_option maxHeartbeats 1000000 in
theorem refread_ok' (v p0 p1 p2 p3 p4 : Int) (w : World) (g0 : 0 ≤ v) (g1 : v ≤ 4294967295) (e0 : v / 16777216 = p0) (e1 : bits BinOp.and IntKind.u32 (v / 1048576) 15 = p1) (e2 : bits BinOp.and IntKind.u32 (v / 65536) 15 = p2) (e3 : bits BinOp.and IntKind.u32 (v / 4096) 15 = p3) (e4 : bits BinOp.and IntKind.u32 v 4095 = p4) (f0 : 0 ≤ p0) (f1 : p0 ≤ 255) (f2 : 0 ≤ p1) (f3 : p1 ≤ 15) (f4 : 0 ≤ p2) (f5 : p2 ≤ 15) (f6 : 0 ≤ p3) (f7 : p3 ≤ 15) (f8 : 0 ≤ p4) (f9 : p4 ≤ 4095) (h : Hid (codeI p0 p1 p2 p3 p4 = 0)) :
    Calls Tryz.prog 26 #[.int .u32 v] w fun e w' => e = .returned (.tuple #[(Value.agg #[.int .i64 p0, .int .i64 p1, .int .i64 p2, .int .i64 p3, .int .i64 p4]), .bool true]) ∧ Below w.heap.size w w' := by
  go_enter Tryz.func26, Tryz.ntmps26
  go_wp2_with (first | (go_at_call 38; (with_reducible refine (vi_is _ _ _ _ _ 0 h _).mono ?_); rintro e w1 ⟨rfl, hb⟩; obtain ⟨hc, hf⟩ := bcellC hb; have hz : w.heap.size + 1 < w1.heap.size := by { have := hb.size; simp at this; omega }))
  obtain ⟨q0, q1, q2, q3, q4⟩ := five_cells (b := w.heap.size) (u0 := .int .i64 0) (u1 := .int .i64 0) (u2 := .int .i64 0) (u3 := .int .i64 0) (u4 := .int .i64 0) (.int .i64 p0) (.int .i64 p1) (.int .i64 p2) (.int .i64 p3) (.int .i64 p4) ((hc w.heap.size 0 (by simp; omega)).trans (by simp)) ((hc w.heap.size 1 (by simp; omega)).trans (by simp)) ((hc w.heap.size 2 (by simp; omega)).trans (by simp)) ((hc w.heap.size 3 (by simp; omega)).trans (by simp)) ((hc w.heap.size 4 (by simp; omega)).trans (by simp)) _ rfl
  refine bodyPost_ret (v := .tuple #[(Value.agg #[.int .i64 p0, .int .i64 p1, .int .i64 p2, .int .i64 p3, .int .i64 p4]), .bool true]) (by simp [results, Tryz.results26, go_sem, q0, q1, q2, q3, q4]) rfl ⟨rfl, ?_⟩
  exact (((((((((Below.refl _ _).alloc (Nat.le_refl _) _).alloc (by simp) _).trans (hb.mono (by simp; omega))).setCell (by simp) _).setCell (by simp) _).setCell (by simp) _).setCell (by simp) _).setCell (by simp) _)
set_option maxRecDepth 100000 in
set_option maxHeartbeats 1000000 in
theorem refread_no' (v p0 p1 p2 p3 p4 : Int) (w : World) (g0 : 0 ≤ v) (g1 : v ≤ 4294967295) (e0 : v / 16777216 = p0) (e1 : bits BinOp.and IntKind.u32 (v / 1048576) 15 = p1) (e2 : bits BinOp.and IntKind.u32 (v / 65536) 15 = p2) (e3 : bits BinOp.and IntKind.u32 (v / 4096) 15 = p3) (e4 : bits BinOp.and IntKind.u32 v 4095 = p4) (f0 : 0 ≤ p0) (f1 : p0 ≤ 255) (f2 : 0 ≤ p1) (f3 : p1 ≤ 15) (f4 : 0 ≤ p2) (f5 : p2 ≤ 15) (f6 : 0 ≤ p3) (f7 : p3 ≤ 15) (f8 : 0 ≤ p4) (f9 : p4 ≤ 4095) (t : Int) (ht : (t == 0) = false) (ht' : (t != 0) = true) (h : Hid (codeI p0 p1 p2 p3 p4 = t)) :
    Calls Tryz.prog 26 #[.int .u32 v] w fun e w' => e = .returned (.tuple #[Value.agg #[.int .i64 0, .int .i64 0, .int .i64 0, .int .i64 0, .int .i64 0], .bool false]) ∧ Below w.heap.size w w' := by
  go_enter Tryz.func26, Tryz.ntmps26
  go_wp2_with (first | (go_at_call 38; (with_reducible refine (vi_is _ _ _ _ _ t h _).mono ?_); rintro e w1 ⟨rfl, hb⟩; obtain ⟨hc, hf⟩ := bcellC hb; have hz : w.heap.size + 1 < w1.heap.size := by { have := hb.size; simp at this; omega }))
  obtain ⟨q0, q1, q2, q3, q4⟩ := five_cells (b := w.heap.size) (u0 := .int .i64 0) (u1 := .int .i64 0) (u2 := .int .i64 0) (u3 := .int .i64 0) (u4 := .int .i64 0) (.int .i64 0) (.int .i64 0) (.int .i64 0) (.int .i64 0) (.int .i64 0) ((hc w.heap.size 0 (by simp; omega)).trans (by simp)) ((hc w.heap.size 1 (by simp; omega)).trans (by simp)) ((hc w.heap.size 2 (by simp; omega)).trans (by simp)) ((hc w.heap.size 3 (by simp; omega)).trans (by simp)) ((hc w.heap.size 4 (by simp; omega)).trans (by simp)) _ rfl
  refine bodyPost_ret (v := .tuple #[Value.agg #[.int .i64 0, .int .i64 0, .int .i64 0, .int .i64 0, .int .i64 0], .bool false]) (by simp [results, Tryz.results26, go_sem, q0, q1, q2, q3, q4]) rfl ⟨rfl, ?_⟩
  exact (((((((((Below.refl _ _).alloc (Nat.le_refl _) _).alloc (by simp) _).trans (hb.mono (by simp; omega))).setCell (by simp) _).setCell (by simp) _).setCell (by simp) _).setCell (by simp) _).setCell (by simp) _)
theorem refread_ok (v p0 p1 p2 p3 p4 : Int) (w : World) (g0 : 0 ≤ v) (g1 : v ≤ 4294967295) (hp : Hid (PartsC v p0 p1 p2 p3 p4)) (h : Hid (okB p0 p1 p2 p3 p4 = true)) :
    Calls Tryz.prog 26 #[.int .u32 v] w fun e w' => e = .returned (.tuple #[(Value.agg #[.int .i64 p0, .int .i64 p1, .int .i64 p2, .int .i64 p3, .int .i64 p4]), .bool true]) ∧ Below w.heap.size w w' := by
  obtain ⟨e0, e1, e2, e3, e4⟩ := hp.out; have m1 : bits BinOp.and IntKind.u32 (v / 1048576) 15 = p1 := by { rw [and_mod 4 _ 15 (by omega) (by omega) (by decide) (by decide)]; exact e1 }; have m2 : bits BinOp.and IntKind.u32 (v / 65536) 15 = p2 := by { rw [and_mod 4 _ 15 (by omega) (by omega) (by decide) (by decide)]; exact e2 }; have m3 : bits BinOp.and IntKind.u32 (v / 4096) 15 = p3 := by { rw [and_mod 4 _ 15 (by omega) (by omega) (by decide) (by decide)]; exact e3 }; have m4 : bits BinOp.and IntKind.u32 v 4095 = p4 := by { rw [and_mod 12 _ 4095 (by omega) (by omega) (by decide) (by decide)]; exact e4 }
  exact refread_ok' v p0 p1 p2 p3 p4 w g0 g1 e0 m1 m2 m3 m4 (by omega) (by omega) (by omega) (by omega) (by omega) (by omega) (by omega) (by omega) (by omega) (by omega) (Lib.hid (codeI_ok h.out))
theorem codeI_ne {op a b c i : Int} (h : okB op a b c i = false) : ¬ codeI op a b c i = 0 := by
  unfold codeI
  rw [if_neg (by rw [h]; decide)]
  split <;> decide
theorem refread_no (v p0 p1 p2 p3 p4 : Int) (w : World) (g0 : 0 ≤ v) (g1 : v ≤ 4294967295) (hp : Hid (PartsC v p0 p1 p2 p3 p4)) (h : Hid (okB p0 p1 p2 p3 p4 = false)) :
    Calls Tryz.prog 26 #[.int .u32 v] w fun e w' => e = .returned (.tuple #[Value.agg #[.int .i64 0, .int .i64 0, .int .i64 0, .int .i64 0, .int .i64 0], .bool false]) ∧ Below w.heap.size w w' := by
  have hn := codeI_ne h.out
  obtain ⟨e0, e1, e2, e3, e4⟩ := hp.out; have m1 : bits BinOp.and IntKind.u32 (v / 1048576) 15 = p1 := by { rw [and_mod 4 _ 15 (by omega) (by omega) (by decide) (by decide)]; exact e1 }; have m2 : bits BinOp.and IntKind.u32 (v / 65536) 15 = p2 := by { rw [and_mod 4 _ 15 (by omega) (by omega) (by decide) (by decide)]; exact e2 }; have m3 : bits BinOp.and IntKind.u32 (v / 4096) 15 = p3 := by { rw [and_mod 4 _ 15 (by omega) (by omega) (by decide) (by decide)]; exact e3 }; have m4 : bits BinOp.and IntKind.u32 v 4095 = p4 := by { rw [and_mod 12 _ 4095 (by omega) (by omega) (by decide) (by decide)]; exact e4 }
  exact refread_no' v p0 p1 p2 p3 p4 w g0 g1 e0 m1 m2 m3 m4 (by omega) (by omega) (by omega) (by omega) (by omega) (by omega) (by omega) (by omega) (by omega) (by omega) _ (beq_eq_false_iff_ne.2 hn) (by simp [hn]) (Lib.hid rfl)
theorem wordof_sum (op a b c i : Int) (g0 : 0 ≤ op) (g1 : op ≤ 13) (g2 : 0 ≤ a) (g3 : a ≤ 15) (g4 : 0 ≤ b) (g5 : b ≤ 15) (g6 : 0 ≤ c) (g7 : c ≤ 15) (g8 : 0 ≤ i) (g9 : i ≤ 4095) :
    bits BinOp.or IntKind.u32 (bits BinOp.or IntKind.u32 (bits BinOp.or IntKind.u32 (bits BinOp.or IntKind.u32 (op * 16777216) (a * 1048576)) (b * 65536)) (c * 4096)) i = wordC op a b c i := by
  rw [or_sum 24 (op * 16777216) (a * 1048576) (by omega) (by omega) (by omega) (by simp) (by simp; omega) (by omega)]
  rw [or_sum 20 _ (b * 65536) (by omega) (by omega) (by omega) (by simp; omega) (by simp; omega) (by omega)]
  rw [or_sum 16 _ (c * 4096) (by omega) (by omega) (by omega) (by simp; omega) (by simp; omega) (by omega)]
  rw [or_sum 12 _ i (by omega) (by omega) (by omega) (by simp; omega) (by simp; omega) (by omega)]
  rfl
theorem ret_u32 {a b : Int} (h : a = b) : Ending.returned (.int .u32 a) = .returned (.int .u32 b) := by rw [h]
set_option maxRecDepth 100000 in
set_option maxHeartbeats 1000000 in
theorem rwordof_is (op a b c i : Int) (w : World) (h : Hid (okB op a b c i = true)) (l : Int) (hl : Hid (wordC op a b c i = l)) :
    Calls Tryz.prog 39 #[.agg #[.int .i64 op, .int .i64 a, .int .i64 b, .int .i64 c, .int .i64 i]] w fun e w' => e = .returned (.int .u32 l) ∧ Below w.heap.size w w' := by
  obtain ⟨g0, g1, g2, g3, g4, g5, g6, g7, g8, g9⟩ := ok_bounds h.out
  have E := Lib.hid (wordof_sum op a b c i (by omega) g1 g2 g3 g4 g5 g6 g7 g8 g9)
  go_enter Tryz.func39, Tryz.ntmps39
  go_wp2
  go_ret
  exact ⟨ret_u32 (E.out.trans hl.out), (Below.refl _ _).alloc (Nat.le_refl _) _⟩
end Go.Proofs.YtaekccgcnlepaaaGreatDoor
namespace Go.Proofs.YtaekccgcnlepaaaGreatDoor
open Go.ChangeShapes Go.WideShapes Go.ChangeAt Go.RowKit
set_option linter.unusedVariables false
set_option linter.unusedSimpArgs false
def wnS (n : Int) : ByteArray := ⟨(wNm.getD n.toNat []).toArray⟩
def mnS (n : Int) : ByteArray := ⟨(mNm.getD n.toNat []).toArray⟩
theorem r_is (n : Nat) (hn : n ≤ 4095) (s : ByteArray) (hs : Hid (tellB n 1 = s)) (w : World) (hT : Tells w) : Calls Tryz.prog 47 #[.int .i64 n] w fun e w' => e = .returned (.string s) ∧ Below w.heap.size w w' := by
  obtain ⟨d, hd⟩ : ∃ d, Hid (decS n = d) := ⟨_, Lib.hid rfl⟩
  have hds : d.size ≤ 20 := by rw [← hd.out]; exact dec_size n (by omega)
  have z1 : (⟨#[32, 114]⟩ : ByteArray).size = 2 := rfl
  have f1 := cat_run ⟨#[32, 114]⟩ d (by omega)
  clear z1
  go_enter Tryz.func47, Tryz.ntmps47
  go_wp2_with (first | (go_at_call 46; (with_reducible refine (itoa_op n d hd (by omega) _ hT.tab).mono ?_); rintro e w1 ⟨rfl, hb⟩))
  go_ret
  refine ⟨ret_str ?_, hb⟩
  rw [← hs.out, ← hd.out]
  rfl
theorem k_is (n : Nat) (hn : n ≤ 4095) (s : ByteArray) (hs : Hid (tellB n 2 = s)) (w : World) (hT : Tells w) : Calls Tryz.prog 49 #[.int .i64 n] w fun e w' => e = .returned (.string s) ∧ Below w.heap.size w w' := by
  obtain ⟨d, hd⟩ : ∃ d, Hid (decS n = d) := ⟨_, Lib.hid rfl⟩
  have hds : d.size ≤ 20 := by rw [← hd.out]; exact dec_size n (by omega)
  have z1 : (⟨#[32, 107]⟩ : ByteArray).size = 2 := rfl
  have f1 := cat_run ⟨#[32, 107]⟩ d (by omega)
  clear z1
  go_enter Tryz.func49, Tryz.ntmps49
  go_wp2_with (first | (go_at_call 46; (with_reducible refine (itoa_op n d hd (by omega) _ hT.tab).mono ?_); rintro e w1 ⟨rfl, hb⟩))
  go_ret
  refine ⟨ret_str ?_, hb⟩
  rw [← hs.out, ← hd.out]
  rfl
set_option maxRecDepth 100000 in
theorem o_is (n : Nat) (hn : n < 12) (s : ByteArray) (hs : Hid (wnS n = s)) (w : World) : Calls Tryz.prog 48 #[.int .i64 n] w fun e w' => e = .returned (.string s) ∧ Below w.heap.size w w' := by
  rw [← hs.out]
  have k0 : (0 : Int) ≤ (n : Int) := by omega
  have k1 : (n : Int) < 12 := by omega
  have d0 : decide ((n : Int) < 0) = false := by simp
  have d1 : decide ((12 : Int) ≤ (n : Int)) = false := by simp; omega
  clear hs
  go_enter Tryz.func48, Tryz.ntmps48
  go_wp2_with fail
  go_ret
  refine ⟨?_, (Below.refl _ _).alloc (Nat.le_refl _) _⟩
  clear d0 d1 k0 k1
  obtain rfl | rfl | rfl | rfl | rfl | rfl | rfl | rfl | rfl | rfl | rfl | rfl : n = 0 ∨ n = 1 ∨ n = 2 ∨ n = 3 ∨ n = 4 ∨ n = 5 ∨ n = 6 ∨ n = 7 ∨ n = 8 ∨ n = 9 ∨ n = 10 ∨ n = 11 := by omega
  all_goals rfl
set_option maxRecDepth 100000 in
theorem h_is (n : Nat) (hn : n < 3) (s : ByteArray) (hs : Hid (mnS n = s)) (w : World) : Calls Tryz.prog 50 #[.int .i64 n] w fun e w' => e = .returned (.string s) ∧ Below w.heap.size w w' := by
  rw [← hs.out]
  have k0 : (0 : Int) ≤ (n : Int) := by omega
  have k1 : (n : Int) < 3 := by omega
  have d0 : decide ((n : Int) < 0) = false := by simp
  have d1 : decide ((3 : Int) ≤ (n : Int)) = false := by simp; omega
  clear hs
  go_enter Tryz.func50, Tryz.ntmps50
  go_wp2_with fail
  go_ret
  refine ⟨?_, (Below.refl _ _).alloc (Nat.le_refl _) _⟩
  clear d0 d1 k0 k1
  obtain rfl | rfl | rfl : n = 0 ∨ n = 1 ∨ n = 2 := by omega
  all_goals rfl
theorem tell0 (x : Int) : tellB x 0 = ⟨#[]⟩ := rfl
theorem ba_ext {a b : ByteArray} (h : a.data.toList = b.data.toList) : a = b := ByteArray.ext (Array.toList_inj.1 h)
section
variable {op a b c i : Int} {w v v' : World}
theorem skeep (h : VT w v ∧ (w.heap.size < v.heap.size ∧ v.cell? ⟨w.heap.size, 0, none⟩ = some (.int .i64 op) ∧ v.cell? ⟨w.heap.size, 1, none⟩ = some (.int .i64 a) ∧ v.cell? ⟨w.heap.size, 2, none⟩ = some (.int .i64 b) ∧ v.cell? ⟨w.heap.size, 3, none⟩ = some (.int .i64 c) ∧ v.cell? ⟨w.heap.size, 4, none⟩ = some (.int .i64 i))) (hb : Below v.heap.size v v') : VT w v' ∧ (w.heap.size < v'.heap.size ∧ v'.cell? ⟨w.heap.size, 0, none⟩ = some (.int .i64 op) ∧ v'.cell? ⟨w.heap.size, 1, none⟩ = some (.int .i64 a) ∧ v'.cell? ⟨w.heap.size, 2, none⟩ = some (.int .i64 b) ∧ v'.cell? ⟨w.heap.size, 3, none⟩ = some (.int .i64 c) ∧ v'.cell? ⟨w.heap.size, 4, none⟩ = some (.int .i64 i)) := ⟨h.1.step hb, keep5C h.2 hb⟩
theorem sbegin (hT : Tells w) (op a b c i : Int) : VT w (w.alloc (.cells #[.int .i64 op, .int .i64 a, .int .i64 b, .int .i64 c, .int .i64 i] 66)) ∧ (w.heap.size < (w.alloc (.cells #[.int .i64 op, .int .i64 a, .int .i64 b, .int .i64 c, .int .i64 i] 66)).heap.size ∧ (w.alloc (.cells #[.int .i64 op, .int .i64 a, .int .i64 b, .int .i64 c, .int .i64 i] 66)).cell? ⟨w.heap.size, 0, none⟩ = some (.int .i64 op) ∧ (w.alloc (.cells #[.int .i64 op, .int .i64 a, .int .i64 b, .int .i64 c, .int .i64 i] 66)).cell? ⟨w.heap.size, 1, none⟩ = some (.int .i64 a) ∧ (w.alloc (.cells #[.int .i64 op, .int .i64 a, .int .i64 b, .int .i64 c, .int .i64 i] 66)).cell? ⟨w.heap.size, 2, none⟩ = some (.int .i64 b) ∧ (w.alloc (.cells #[.int .i64 op, .int .i64 a, .int .i64 b, .int .i64 c, .int .i64 i] 66)).cell? ⟨w.heap.size, 3, none⟩ = some (.int .i64 c) ∧ (w.alloc (.cells #[.int .i64 op, .int .i64 a, .int .i64 b, .int .i64 c, .int .i64 i] 66)).cell? ⟨w.heap.size, 4, none⟩ = some (.int .i64 i)) := ⟨⟨(Below.refl _ _).alloc (Nat.le_refl _) _, hT.below ((Below.refl _ _).alloc (Nat.le_refl _) _)⟩, by simp, by simp, by simp, by simp, by simp, by simp⟩
theorem s_tells (h : VT w v ∧ (w.heap.size < v.heap.size ∧ v.cell? ⟨w.heap.size, 0, none⟩ = some (.int .i64 op) ∧ v.cell? ⟨w.heap.size, 1, none⟩ = some (.int .i64 a) ∧ v.cell? ⟨w.heap.size, 2, none⟩ = some (.int .i64 b) ∧ v.cell? ⟨w.heap.size, 3, none⟩ = some (.int .i64 c) ∧ v.cell? ⟨w.heap.size, 4, none⟩ = some (.int .i64 i))) : Tells v := h.1.2
theorem s_bel (h : VT w v ∧ (w.heap.size < v.heap.size ∧ v.cell? ⟨w.heap.size, 0, none⟩ = some (.int .i64 op) ∧ v.cell? ⟨w.heap.size, 1, none⟩ = some (.int .i64 a) ∧ v.cell? ⟨w.heap.size, 2, none⟩ = some (.int .i64 b) ∧ v.cell? ⟨w.heap.size, 3, none⟩ = some (.int .i64 c) ∧ v.cell? ⟨w.heap.size, 4, none⟩ = some (.int .i64 i))) : Below w.heap.size w v := h.1.1
end
set_option maxRecDepth 100000 in
set_option maxHeartbeats 2000000 in
theorem it_1 (a b c i : Nat) (hok : okB 1 a b c i = true) (w : World) (hT : Tells w) : Calls Tryz.prog 27 #[.agg #[.int .i64 1, .int .i64 a, .int .i64 b, .int .i64 c, .int .i64 i]] w fun e w' => e = .returned (.string (textC 1 a b c i)) ∧ Below w.heap.size w w' := by
  obtain ⟨p1, p2, p3, p4⟩ := ok_parts hok
  have gb := ok_bounds hok
  obtain ⟨d, hd⟩ : ∃ d, Hid (decS i = d) := ⟨_, Lib.hid rfl⟩
  have hds : d.size ≤ 20 := by rw [← hd.out]; exact dec_size i (by omega)
  obtain ⟨da, ea⟩ : ∃ d, Hid (tellB a 1 = d) := ⟨_, Lib.hid rfl⟩
  have sa : da.size ≤ 30 := by rw [← ea.out]; exact tell_size a 1 (p1)
  have z0 : (⟨#[32]⟩ : ByteArray).size = 1 := rfl
  have f0 := cat_run ⟨#[32]⟩ d (by omega)
  have zc : (⟨#[108, 105]⟩ : ByteArray).size = 2 := rfl
  have f1 := cat_run ((⟨#[108, 105]⟩ : ByteArray)) da (by first | omega | (simp only [ByteArray.size_append]; omega))
  have f2 := cat_run ((⟨#[108, 105]⟩ : ByteArray) ++ da) (⟨#[32]⟩ ++ d) (by first | omega | (simp only [ByteArray.size_append]; omega))
  have HE : Hid ((⟨#[108, 105]⟩ : ByteArray) ++ da ++ (⟨#[32]⟩ ++ d) = textC 1 a b c i) := Lib.hid (by
    rw [← hd.out, ← ea.out]
    refine ba_ext ?_
    rw [show textC 1 a b c i = textC ((1 : Nat) : Int) a b c i from rfl, textC_list]
    simp only [ba_list]
    simp [txC, tellB, tellL, fNm, fA, fB, fC, fI, wnS, mnS, decS])
  have hS := sbegin hT 1 a b c i
  have hk := hS.2
  clear z0 zc hok p1 p2 p3 p4 hT
  go_enter Tryz.func27, Tryz.ntmps27
  go_wp2_with (first | (go_at_call 46; (with_reducible refine (itoa_op i d hd (by omega) _ (s_tells hS).tab).mono ?_); rintro e w1 ⟨rfl, hb⟩; replace hS := skeep hS hb; clear hk; have hk := hS.2; clear hb) | (go_at_call 47; (with_reducible refine (r_is a (by omega) da ea _ (s_tells hS)).mono ?_); rintro e w2 ⟨rfl, hb⟩; replace hS := skeep hS hb; clear hk; have hk := hS.2; clear hb))
  go_ret
  exact ⟨ret_str HE.out, s_bel hS⟩
set_option maxRecDepth 100000 in
set_option maxHeartbeats 2000000 in
theorem it_2 (a b c i : Nat) (hok : okB 2 a b c i = true) (w : World) (hT : Tells w) : Calls Tryz.prog 27 #[.agg #[.int .i64 2, .int .i64 a, .int .i64 b, .int .i64 c, .int .i64 i]] w fun e w' => e = .returned (.string (textC 2 a b c i)) ∧ Below w.heap.size w w' := by
  obtain ⟨p1, p2, p3, p4⟩ := ok_parts hok
  have gb := ok_bounds hok
  obtain ⟨d, hd⟩ : ∃ d, Hid (decS i = d) := ⟨_, Lib.hid rfl⟩
  have hds : d.size ≤ 20 := by rw [← hd.out]; exact dec_size i (by omega)
  obtain ⟨da, ea⟩ : ∃ d, Hid (tellB a 1 = d) := ⟨_, Lib.hid rfl⟩
  have sa : da.size ≤ 30 := by rw [← ea.out]; exact tell_size a 1 (p1)
  have z0 : (⟨#[32]⟩ : ByteArray).size = 1 := rfl
  have f0 := cat_run ⟨#[32]⟩ d (by omega)
  have zc : (⟨#[108, 105, 104]⟩ : ByteArray).size = 3 := rfl
  have f1 := cat_run ((⟨#[108, 105, 104]⟩ : ByteArray)) da (by first | omega | (simp only [ByteArray.size_append]; omega))
  have f2 := cat_run ((⟨#[108, 105, 104]⟩ : ByteArray) ++ da) (⟨#[32]⟩ ++ d) (by first | omega | (simp only [ByteArray.size_append]; omega))
  have HE : Hid ((⟨#[108, 105, 104]⟩ : ByteArray) ++ da ++ (⟨#[32]⟩ ++ d) = textC 2 a b c i) := Lib.hid (by
    rw [← hd.out, ← ea.out]
    refine ba_ext ?_
    rw [show textC 2 a b c i = textC ((2 : Nat) : Int) a b c i from rfl, textC_list]
    simp only [ba_list]
    simp [txC, tellB, tellL, fNm, fA, fB, fC, fI, wnS, mnS, decS])
  have hS := sbegin hT 2 a b c i
  have hk := hS.2
  clear z0 zc hok p1 p2 p3 p4 hT
  go_enter Tryz.func27, Tryz.ntmps27
  go_wp2_with (first | (go_at_call 46; (with_reducible refine (itoa_op i d hd (by omega) _ (s_tells hS).tab).mono ?_); rintro e w1 ⟨rfl, hb⟩; replace hS := skeep hS hb; clear hk; have hk := hS.2; clear hb) | (go_at_call 47; (with_reducible refine (r_is a (by omega) da ea _ (s_tells hS)).mono ?_); rintro e w2 ⟨rfl, hb⟩; replace hS := skeep hS hb; clear hk; have hk := hS.2; clear hb))
  go_ret
  exact ⟨ret_str HE.out, s_bel hS⟩
set_option maxRecDepth 100000 in
set_option maxHeartbeats 2000000 in
theorem it_3 (a b c i : Nat) (hok : okB 3 a b c i = true) (w : World) (hT : Tells w) : Calls Tryz.prog 27 #[.agg #[.int .i64 3, .int .i64 a, .int .i64 b, .int .i64 c, .int .i64 i]] w fun e w' => e = .returned (.string (textC 3 a b c i)) ∧ Below w.heap.size w w' := by
  obtain ⟨p1, p2, p3, p4⟩ := ok_parts hok
  have gb := ok_bounds hok
  have hwi : i < 12 := by simp only [fitB, decide_eq_true_eq] at p4; have : hiOf (fI.getD 3 0) = 11 := rfl; omega
  obtain ⟨d, hd⟩ : ∃ d, Hid (decS i = d) := ⟨_, Lib.hid rfl⟩
  have hds : d.size ≤ 20 := by rw [← hd.out]; exact dec_size i (by omega)
  obtain ⟨di, ei⟩ : ∃ d, Hid (wnS i = d) := ⟨_, Lib.hid rfl⟩
  have si : di.size ≤ 30 := by rw [← ei.out]; exact Nat.le_trans (wn_size ⟨i, hwi⟩) (by decide)
  obtain ⟨da, ea⟩ : ∃ d, Hid (tellB a 1 = d) := ⟨_, Lib.hid rfl⟩
  have sa : da.size ≤ 30 := by rw [← ea.out]; exact tell_size a 1 (p1)
  obtain ⟨db, eb⟩ : ∃ d, Hid (tellB b 1 = d) := ⟨_, Lib.hid rfl⟩
  have sb : db.size ≤ 30 := by rw [← eb.out]; exact tell_size b 1 (p2)
  obtain ⟨dc, ec⟩ : ∃ d, Hid (tellB c 1 = d) := ⟨_, Lib.hid rfl⟩
  have sc : dc.size ≤ 30 := by rw [← ec.out]; exact tell_size c 1 (p3)
  have z0 : (⟨#[32]⟩ : ByteArray).size = 1 := rfl
  have f0 := cat_run ⟨#[32]⟩ d (by omega)
  have zc : (⟨#[97, 108, 117, 32]⟩ : ByteArray).size = 4 := rfl
  have f1 := cat_run ((⟨#[97, 108, 117, 32]⟩ : ByteArray)) di (by first | omega | (simp only [ByteArray.size_append]; omega))
  have f2 := cat_run ((⟨#[97, 108, 117, 32]⟩ : ByteArray) ++ di) da (by first | omega | (simp only [ByteArray.size_append]; omega))
  have f3 := cat_run ((⟨#[97, 108, 117, 32]⟩ : ByteArray) ++ di ++ da) db (by first | omega | (simp only [ByteArray.size_append]; omega))
  have f4 := cat_run ((⟨#[97, 108, 117, 32]⟩ : ByteArray) ++ di ++ da ++ db) dc (by first | omega | (simp only [ByteArray.size_append]; omega))
  have HE : Hid ((⟨#[97, 108, 117, 32]⟩ : ByteArray) ++ di ++ da ++ db ++ dc = textC 3 a b c i) := Lib.hid (by
    rw [← ei.out, ← ea.out, ← eb.out, ← ec.out]
    refine ba_ext ?_
    rw [show textC 3 a b c i = textC ((3 : Nat) : Int) a b c i from rfl, textC_list]
    simp only [ba_list]
    simp [txC, tellB, tellL, fNm, fA, fB, fC, fI, wnS, mnS, decS])
  have hS := sbegin hT 3 a b c i
  have hk := hS.2
  clear z0 zc hok p1 p2 p3 p4 hT
  go_enter Tryz.func27, Tryz.ntmps27
  go_wp2_with (first | (go_at_call 46; (with_reducible refine (itoa_op i d hd (by omega) _ (s_tells hS).tab).mono ?_); rintro e w1 ⟨rfl, hb⟩; replace hS := skeep hS hb; clear hk; have hk := hS.2; clear hb))
  have ST := Lib.hid (skeep hS ((Below.refl _ _).drew))
  clear hS hk
  go_region_held3 (fun w' => VT w w' ∧ (w.heap.size < w'.heap.size ∧ w'.cell? ⟨w.heap.size, 0, none⟩ = some (.int .i64 3) ∧ w'.cell? ⟨w.heap.size, 1, none⟩ = some (.int .i64 a) ∧ w'.cell? ⟨w.heap.size, 2, none⟩ = some (.int .i64 b) ∧ w'.cell? ⟨w.heap.size, 3, none⟩ = some (.int .i64 c) ∧ w'.cell? ⟨w.heap.size, 4, none⟩ = some (.int .i64 i))) (first | exact ST.out | exact skeep (by assumption) hb) (first | (go_at_call 48; (with_reducible refine (o_is i hwi di ei _).mono ?_); rintro e w' ⟨rfl, hb⟩) | (go_at_call 47; (with_reducible refine (r_is a (by omega) da ea _ (s_tells (by assumption))).mono ?_); rintro e w' ⟨rfl, hb⟩) | (go_at_call 47; (with_reducible refine (r_is b (by omega) db eb _ (s_tells (by assumption))).mono ?_); rintro e w' ⟨rfl, hb⟩) | (go_at_call 47; (with_reducible refine (r_is c (by omega) dc ec _ (s_tells (by assumption))).mono ?_); rintro e w' ⟨rfl, hb⟩))
  have hB : VT w w' := And.left (by assumption)
  have HB := Lib.hid hB
  clear hB
  go_wp2_with fail
  go_ret
  exact ⟨ret_str HE.out, HB.out.1⟩
set_option maxRecDepth 100000 in
set_option maxHeartbeats 2000000 in
theorem it_4 (a b c i : Nat) (hok : okB 4 a b c i = true) (w : World) (hT : Tells w) : Calls Tryz.prog 27 #[.agg #[.int .i64 4, .int .i64 a, .int .i64 b, .int .i64 c, .int .i64 i]] w fun e w' => e = .returned (.string (textC 4 a b c i)) ∧ Below w.heap.size w w' := by
  obtain ⟨p1, p2, p3, p4⟩ := ok_parts hok
  have gb := ok_bounds hok
  obtain ⟨d, hd⟩ : ∃ d, Hid (decS i = d) := ⟨_, Lib.hid rfl⟩
  have hds : d.size ≤ 20 := by rw [← hd.out]; exact dec_size i (by omega)
  have z0 : (⟨#[32]⟩ : ByteArray).size = 1 := rfl
  have f0 := cat_run ⟨#[32]⟩ d (by omega)
  have zc : (⟨#[106, 109, 112]⟩ : ByteArray).size = 3 := rfl
  have f1 := cat_run ((⟨#[106, 109, 112]⟩ : ByteArray)) (⟨#[32]⟩ ++ d) (by first | omega | (simp only [ByteArray.size_append]; omega))
  have HE : Hid ((⟨#[106, 109, 112]⟩ : ByteArray) ++ (⟨#[32]⟩ ++ d) = textC 4 a b c i) := Lib.hid (by
    rw [← hd.out]
    refine ba_ext ?_
    rw [show textC 4 a b c i = textC ((4 : Nat) : Int) a b c i from rfl, textC_list]
    simp only [ba_list]
    simp [txC, tellB, tellL, fNm, fA, fB, fC, fI, wnS, mnS, decS])
  have hS := sbegin hT 4 a b c i
  have hk := hS.2
  clear z0 zc hok p1 p2 p3 p4 hT
  go_enter Tryz.func27, Tryz.ntmps27
  go_wp2_with (first | (go_at_call 46; (with_reducible refine (itoa_op i d hd (by omega) _ (s_tells hS).tab).mono ?_); rintro e w1 ⟨rfl, hb⟩; replace hS := skeep hS hb; clear hk; have hk := hS.2; clear hb))
  go_ret
  exact ⟨ret_str HE.out, s_bel hS⟩
set_option maxRecDepth 100000 in
set_option maxHeartbeats 2000000 in
theorem it_5 (a b c i : Nat) (hok : okB 5 a b c i = true) (w : World) (hT : Tells w) : Calls Tryz.prog 27 #[.agg #[.int .i64 5, .int .i64 a, .int .i64 b, .int .i64 c, .int .i64 i]] w fun e w' => e = .returned (.string (textC 5 a b c i)) ∧ Below w.heap.size w w' := by
  obtain ⟨p1, p2, p3, p4⟩ := ok_parts hok
  have gb := ok_bounds hok
  obtain ⟨d, hd⟩ : ∃ d, Hid (decS i = d) := ⟨_, Lib.hid rfl⟩
  have hds : d.size ≤ 20 := by rw [← hd.out]; exact dec_size i (by omega)
  obtain ⟨da, ea⟩ : ∃ d, Hid (tellB a 1 = d) := ⟨_, Lib.hid rfl⟩
  have sa : da.size ≤ 30 := by rw [← ea.out]; exact tell_size a 1 (p1)
  have z0 : (⟨#[32]⟩ : ByteArray).size = 1 := rfl
  have f0 := cat_run ⟨#[32]⟩ d (by omega)
  have zc : (⟨#[106, 122]⟩ : ByteArray).size = 2 := rfl
  have f1 := cat_run ((⟨#[106, 122]⟩ : ByteArray)) da (by first | omega | (simp only [ByteArray.size_append]; omega))
  have f2 := cat_run ((⟨#[106, 122]⟩ : ByteArray) ++ da) (⟨#[32]⟩ ++ d) (by first | omega | (simp only [ByteArray.size_append]; omega))
  have HE : Hid ((⟨#[106, 122]⟩ : ByteArray) ++ da ++ (⟨#[32]⟩ ++ d) = textC 5 a b c i) := Lib.hid (by
    rw [← hd.out, ← ea.out]
    refine ba_ext ?_
    rw [show textC 5 a b c i = textC ((5 : Nat) : Int) a b c i from rfl, textC_list]
    simp only [ba_list]
    simp [txC, tellB, tellL, fNm, fA, fB, fC, fI, wnS, mnS, decS])
  have hS := sbegin hT 5 a b c i
  have hk := hS.2
  clear z0 zc hok p1 p2 p3 p4 hT
  go_enter Tryz.func27, Tryz.ntmps27
  go_wp2_with (first | (go_at_call 46; (with_reducible refine (itoa_op i d hd (by omega) _ (s_tells hS).tab).mono ?_); rintro e w1 ⟨rfl, hb⟩; replace hS := skeep hS hb; clear hk; have hk := hS.2; clear hb) | (go_at_call 47; (with_reducible refine (r_is a (by omega) da ea _ (s_tells hS)).mono ?_); rintro e w2 ⟨rfl, hb⟩; replace hS := skeep hS hb; clear hk; have hk := hS.2; clear hb))
  go_ret
  exact ⟨ret_str HE.out, s_bel hS⟩
set_option maxRecDepth 100000 in
set_option maxHeartbeats 2000000 in
theorem it_6 (a b c i : Nat) (hok : okB 6 a b c i = true) (w : World) (hT : Tells w) : Calls Tryz.prog 27 #[.agg #[.int .i64 6, .int .i64 a, .int .i64 b, .int .i64 c, .int .i64 i]] w fun e w' => e = .returned (.string (textC 6 a b c i)) ∧ Below w.heap.size w w' := by
  obtain ⟨p1, p2, p3, p4⟩ := ok_parts hok
  have gb := ok_bounds hok
  obtain ⟨d, hd⟩ : ∃ d, Hid (decS i = d) := ⟨_, Lib.hid rfl⟩
  have hds : d.size ≤ 20 := by rw [← hd.out]; exact dec_size i (by omega)
  obtain ⟨da, ea⟩ : ∃ d, Hid (tellB a 1 = d) := ⟨_, Lib.hid rfl⟩
  have sa : da.size ≤ 30 := by rw [← ea.out]; exact tell_size a 1 (p1)
  obtain ⟨db, eb⟩ : ∃ d, Hid (tellB b 1 = d) := ⟨_, Lib.hid rfl⟩
  have sb : db.size ≤ 30 := by rw [← eb.out]; exact tell_size b 1 (p2)
  have z0 : (⟨#[32]⟩ : ByteArray).size = 1 := rfl
  have f0 := cat_run ⟨#[32]⟩ d (by omega)
  have zc : (⟨#[108, 111, 97, 100]⟩ : ByteArray).size = 4 := rfl
  have f1 := cat_run ((⟨#[108, 111, 97, 100]⟩ : ByteArray)) da (by first | omega | (simp only [ByteArray.size_append]; omega))
  have f2 := cat_run ((⟨#[108, 111, 97, 100]⟩ : ByteArray) ++ da) db (by first | omega | (simp only [ByteArray.size_append]; omega))
  have f3 := cat_run ((⟨#[108, 111, 97, 100]⟩ : ByteArray) ++ da ++ db) (⟨#[32]⟩ ++ d) (by first | omega | (simp only [ByteArray.size_append]; omega))
  have HE : Hid ((⟨#[108, 111, 97, 100]⟩ : ByteArray) ++ da ++ db ++ (⟨#[32]⟩ ++ d) = textC 6 a b c i) := Lib.hid (by
    rw [← hd.out, ← ea.out, ← eb.out]
    refine ba_ext ?_
    rw [show textC 6 a b c i = textC ((6 : Nat) : Int) a b c i from rfl, textC_list]
    simp only [ba_list]
    simp [txC, tellB, tellL, fNm, fA, fB, fC, fI, wnS, mnS, decS])
  have hS := sbegin hT 6 a b c i
  have hk := hS.2
  clear z0 zc hok p1 p2 p3 p4 hT
  go_enter Tryz.func27, Tryz.ntmps27
  go_wp2_with (first | (go_at_call 46; (with_reducible refine (itoa_op i d hd (by omega) _ (s_tells hS).tab).mono ?_); rintro e w1 ⟨rfl, hb⟩; replace hS := skeep hS hb; clear hk; have hk := hS.2; clear hb))
  have ST := Lib.hid (skeep hS ((Below.refl _ _).drew))
  clear hS hk
  go_region_held3 (fun w' => VT w w' ∧ (w.heap.size < w'.heap.size ∧ w'.cell? ⟨w.heap.size, 0, none⟩ = some (.int .i64 6) ∧ w'.cell? ⟨w.heap.size, 1, none⟩ = some (.int .i64 a) ∧ w'.cell? ⟨w.heap.size, 2, none⟩ = some (.int .i64 b) ∧ w'.cell? ⟨w.heap.size, 3, none⟩ = some (.int .i64 c) ∧ w'.cell? ⟨w.heap.size, 4, none⟩ = some (.int .i64 i))) (first | exact ST.out | exact skeep (by assumption) hb) (first | (go_at_call 47; (with_reducible refine (r_is a (by omega) da ea _ (s_tells (by assumption))).mono ?_); rintro e w' ⟨rfl, hb⟩) | (go_at_call 47; (with_reducible refine (r_is b (by omega) db eb _ (s_tells (by assumption))).mono ?_); rintro e w' ⟨rfl, hb⟩))
  have hB : VT w w' := And.left (by assumption)
  have HB := Lib.hid hB
  clear hB
  go_wp2_with fail
  go_ret
  exact ⟨ret_str HE.out, HB.out.1⟩
set_option maxRecDepth 100000 in
set_option maxHeartbeats 2000000 in
theorem it_7 (a b c i : Nat) (hok : okB 7 a b c i = true) (w : World) (hT : Tells w) : Calls Tryz.prog 27 #[.agg #[.int .i64 7, .int .i64 a, .int .i64 b, .int .i64 c, .int .i64 i]] w fun e w' => e = .returned (.string (textC 7 a b c i)) ∧ Below w.heap.size w w' := by
  obtain ⟨p1, p2, p3, p4⟩ := ok_parts hok
  have gb := ok_bounds hok
  obtain ⟨d, hd⟩ : ∃ d, Hid (decS i = d) := ⟨_, Lib.hid rfl⟩
  have hds : d.size ≤ 20 := by rw [← hd.out]; exact dec_size i (by omega)
  obtain ⟨da, ea⟩ : ∃ d, Hid (tellB a 1 = d) := ⟨_, Lib.hid rfl⟩
  have sa : da.size ≤ 30 := by rw [← ea.out]; exact tell_size a 1 (p1)
  obtain ⟨db, eb⟩ : ∃ d, Hid (tellB b 1 = d) := ⟨_, Lib.hid rfl⟩
  have sb : db.size ≤ 30 := by rw [← eb.out]; exact tell_size b 1 (p2)
  have z0 : (⟨#[32]⟩ : ByteArray).size = 1 := rfl
  have f0 := cat_run ⟨#[32]⟩ d (by omega)
  have zc : (⟨#[115, 97, 118, 101]⟩ : ByteArray).size = 4 := rfl
  have f1 := cat_run ((⟨#[115, 97, 118, 101]⟩ : ByteArray)) da (by first | omega | (simp only [ByteArray.size_append]; omega))
  have f2 := cat_run ((⟨#[115, 97, 118, 101]⟩ : ByteArray) ++ da) db (by first | omega | (simp only [ByteArray.size_append]; omega))
  have f3 := cat_run ((⟨#[115, 97, 118, 101]⟩ : ByteArray) ++ da ++ db) (⟨#[32]⟩ ++ d) (by first | omega | (simp only [ByteArray.size_append]; omega))
  have HE : Hid ((⟨#[115, 97, 118, 101]⟩ : ByteArray) ++ da ++ db ++ (⟨#[32]⟩ ++ d) = textC 7 a b c i) := Lib.hid (by
    rw [← hd.out, ← ea.out, ← eb.out]
    refine ba_ext ?_
    rw [show textC 7 a b c i = textC ((7 : Nat) : Int) a b c i from rfl, textC_list]
    simp only [ba_list]
    simp [txC, tellB, tellL, fNm, fA, fB, fC, fI, wnS, mnS, decS])
  have hS := sbegin hT 7 a b c i
  have hk := hS.2
  clear z0 zc hok p1 p2 p3 p4 hT
  go_enter Tryz.func27, Tryz.ntmps27
  go_wp2_with (first | (go_at_call 46; (with_reducible refine (itoa_op i d hd (by omega) _ (s_tells hS).tab).mono ?_); rintro e w1 ⟨rfl, hb⟩; replace hS := skeep hS hb; clear hk; have hk := hS.2; clear hb))
  have ST := Lib.hid (skeep hS ((Below.refl _ _).drew))
  clear hS hk
  go_region_held3 (fun w' => VT w w' ∧ (w.heap.size < w'.heap.size ∧ w'.cell? ⟨w.heap.size, 0, none⟩ = some (.int .i64 7) ∧ w'.cell? ⟨w.heap.size, 1, none⟩ = some (.int .i64 a) ∧ w'.cell? ⟨w.heap.size, 2, none⟩ = some (.int .i64 b) ∧ w'.cell? ⟨w.heap.size, 3, none⟩ = some (.int .i64 c) ∧ w'.cell? ⟨w.heap.size, 4, none⟩ = some (.int .i64 i))) (first | exact ST.out | exact skeep (by assumption) hb) (first | (go_at_call 47; (with_reducible refine (r_is a (by omega) da ea _ (s_tells (by assumption))).mono ?_); rintro e w' ⟨rfl, hb⟩) | (go_at_call 47; (with_reducible refine (r_is b (by omega) db eb _ (s_tells (by assumption))).mono ?_); rintro e w' ⟨rfl, hb⟩))
  have hB : VT w w' := And.left (by assumption)
  have HB := Lib.hid hB
  clear hB
  go_wp2_with fail
  go_ret
  exact ⟨ret_str HE.out, HB.out.1⟩
set_option maxRecDepth 100000 in
set_option maxHeartbeats 2000000 in
theorem it_8 (a b c i : Nat) (hok : okB 8 a b c i = true) (w : World) (hT : Tells w) : Calls Tryz.prog 27 #[.agg #[.int .i64 8, .int .i64 a, .int .i64 b, .int .i64 c, .int .i64 i]] w fun e w' => e = .returned (.string (textC 8 a b c i)) ∧ Below w.heap.size w w' := by
  obtain ⟨p1, p2, p3, p4⟩ := ok_parts hok
  have gb := ok_bounds hok
  obtain ⟨d, hd⟩ : ∃ d, Hid (decS i = d) := ⟨_, Lib.hid rfl⟩
  have hds : d.size ≤ 20 := by rw [← hd.out]; exact dec_size i (by omega)
  obtain ⟨da, ea⟩ : ∃ d, Hid (tellB a 2 = d) := ⟨_, Lib.hid rfl⟩
  have sa : da.size ≤ 30 := by rw [← ea.out]; exact tell_size a 2 (p1)
  obtain ⟨db, eb⟩ : ∃ d, Hid (tellB b 2 = d) := ⟨_, Lib.hid rfl⟩
  have sb : db.size ≤ 30 := by rw [← eb.out]; exact tell_size b 2 (p2)
  have z0 : (⟨#[32]⟩ : ByteArray).size = 1 := rfl
  have f0 := cat_run ⟨#[32]⟩ d (by omega)
  have zc : (⟨#[107, 109, 111, 118, 101]⟩ : ByteArray).size = 5 := rfl
  have f1 := cat_run ((⟨#[107, 109, 111, 118, 101]⟩ : ByteArray)) da (by first | omega | (simp only [ByteArray.size_append]; omega))
  have f2 := cat_run ((⟨#[107, 109, 111, 118, 101]⟩ : ByteArray) ++ da) db (by first | omega | (simp only [ByteArray.size_append]; omega))
  have HE : Hid ((⟨#[107, 109, 111, 118, 101]⟩ : ByteArray) ++ da ++ db = textC 8 a b c i) := Lib.hid (by
    rw [← ea.out, ← eb.out]
    refine ba_ext ?_
    rw [show textC 8 a b c i = textC ((8 : Nat) : Int) a b c i from rfl, textC_list]
    simp only [ba_list]
    simp [txC, tellB, tellL, fNm, fA, fB, fC, fI, wnS, mnS, decS])
  have hS := sbegin hT 8 a b c i
  have hk := hS.2
  clear z0 zc hok p1 p2 p3 p4 hT
  go_enter Tryz.func27, Tryz.ntmps27
  go_wp2_with (first | (go_at_call 46; (with_reducible refine (itoa_op i d hd (by omega) _ (s_tells hS).tab).mono ?_); rintro e w1 ⟨rfl, hb⟩; replace hS := skeep hS hb; clear hk; have hk := hS.2; clear hb))
  have ST := Lib.hid (skeep hS ((Below.refl _ _).drew))
  clear hS hk
  go_region_held3 (fun w' => VT w w' ∧ (w.heap.size < w'.heap.size ∧ w'.cell? ⟨w.heap.size, 0, none⟩ = some (.int .i64 8) ∧ w'.cell? ⟨w.heap.size, 1, none⟩ = some (.int .i64 a) ∧ w'.cell? ⟨w.heap.size, 2, none⟩ = some (.int .i64 b) ∧ w'.cell? ⟨w.heap.size, 3, none⟩ = some (.int .i64 c) ∧ w'.cell? ⟨w.heap.size, 4, none⟩ = some (.int .i64 i))) (first | exact ST.out | exact skeep (by assumption) hb) (first | (go_at_call 49; (with_reducible refine (k_is a (by omega) da ea _ (s_tells (by assumption))).mono ?_); rintro e w' ⟨rfl, hb⟩) | (go_at_call 49; (with_reducible refine (k_is b (by omega) db eb _ (s_tells (by assumption))).mono ?_); rintro e w' ⟨rfl, hb⟩))
  have hB : VT w w' := And.left (by assumption)
  have HB := Lib.hid hB
  clear hB
  go_wp2_with fail
  go_ret
  exact ⟨ret_str HE.out, HB.out.1⟩
set_option maxRecDepth 100000 in
set_option maxHeartbeats 2000000 in
theorem it_9 (a b c i : Nat) (hok : okB 9 a b c i = true) (w : World) (hT : Tells w) : Calls Tryz.prog 27 #[.agg #[.int .i64 9, .int .i64 a, .int .i64 b, .int .i64 c, .int .i64 i]] w fun e w' => e = .returned (.string (textC 9 a b c i)) ∧ Below w.heap.size w w' := by
  obtain ⟨p1, p2, p3, p4⟩ := ok_parts hok
  have gb := ok_bounds hok
  obtain ⟨d, hd⟩ : ∃ d, Hid (decS i = d) := ⟨_, Lib.hid rfl⟩
  have hds : d.size ≤ 20 := by rw [← hd.out]; exact dec_size i (by omega)
  obtain ⟨da, ea⟩ : ∃ d, Hid (tellB a 2 = d) := ⟨_, Lib.hid rfl⟩
  have sa : da.size ≤ 30 := by rw [← ea.out]; exact tell_size a 2 (p1)
  obtain ⟨db, eb⟩ : ∃ d, Hid (tellB b 1 = d) := ⟨_, Lib.hid rfl⟩
  have sb : db.size ≤ 30 := by rw [← eb.out]; exact tell_size b 1 (p2)
  have z0 : (⟨#[32]⟩ : ByteArray).size = 1 := rfl
  have f0 := cat_run ⟨#[32]⟩ d (by omega)
  have zc : (⟨#[107, 110, 117, 109]⟩ : ByteArray).size = 4 := rfl
  have f1 := cat_run ((⟨#[107, 110, 117, 109]⟩ : ByteArray)) da (by first | omega | (simp only [ByteArray.size_append]; omega))
  have f2 := cat_run ((⟨#[107, 110, 117, 109]⟩ : ByteArray) ++ da) db (by first | omega | (simp only [ByteArray.size_append]; omega))
  have HE : Hid ((⟨#[107, 110, 117, 109]⟩ : ByteArray) ++ da ++ db = textC 9 a b c i) := Lib.hid (by
    rw [← ea.out, ← eb.out]
    refine ba_ext ?_
    rw [show textC 9 a b c i = textC ((9 : Nat) : Int) a b c i from rfl, textC_list]
    simp only [ba_list]
    simp [txC, tellB, tellL, fNm, fA, fB, fC, fI, wnS, mnS, decS])
  have hS := sbegin hT 9 a b c i
  have hk := hS.2
  clear z0 zc hok p1 p2 p3 p4 hT
  go_enter Tryz.func27, Tryz.ntmps27
  go_wp2_with (first | (go_at_call 46; (with_reducible refine (itoa_op i d hd (by omega) _ (s_tells hS).tab).mono ?_); rintro e w1 ⟨rfl, hb⟩; replace hS := skeep hS hb; clear hk; have hk := hS.2; clear hb))
  have ST := Lib.hid (skeep hS ((Below.refl _ _).drew))
  clear hS hk
  go_region_held3 (fun w' => VT w w' ∧ (w.heap.size < w'.heap.size ∧ w'.cell? ⟨w.heap.size, 0, none⟩ = some (.int .i64 9) ∧ w'.cell? ⟨w.heap.size, 1, none⟩ = some (.int .i64 a) ∧ w'.cell? ⟨w.heap.size, 2, none⟩ = some (.int .i64 b) ∧ w'.cell? ⟨w.heap.size, 3, none⟩ = some (.int .i64 c) ∧ w'.cell? ⟨w.heap.size, 4, none⟩ = some (.int .i64 i))) (first | exact ST.out | exact skeep (by assumption) hb) (first | (go_at_call 49; (with_reducible refine (k_is a (by omega) da ea _ (s_tells (by assumption))).mono ?_); rintro e w' ⟨rfl, hb⟩) | (go_at_call 47; (with_reducible refine (r_is b (by omega) db eb _ (s_tells (by assumption))).mono ?_); rintro e w' ⟨rfl, hb⟩))
  have hB : VT w w' := And.left (by assumption)
  have HB := Lib.hid hB
  clear hB
  go_wp2_with fail
  go_ret
  exact ⟨ret_str HE.out, HB.out.1⟩
set_option maxRecDepth 100000 in
set_option maxHeartbeats 2000000 in
theorem it_10 (a b c i : Nat) (hok : okB 10 a b c i = true) (w : World) (hT : Tells w) : Calls Tryz.prog 27 #[.agg #[.int .i64 10, .int .i64 a, .int .i64 b, .int .i64 c, .int .i64 i]] w fun e w' => e = .returned (.string (textC 10 a b c i)) ∧ Below w.heap.size w w' := by
  obtain ⟨p1, p2, p3, p4⟩ := ok_parts hok
  have gb := ok_bounds hok
  obtain ⟨d, hd⟩ : ∃ d, Hid (decS i = d) := ⟨_, Lib.hid rfl⟩
  have hds : d.size ≤ 20 := by rw [← hd.out]; exact dec_size i (by omega)
  obtain ⟨da, ea⟩ : ∃ d, Hid (tellB a 1 = d) := ⟨_, Lib.hid rfl⟩
  have sa : da.size ≤ 30 := by rw [← ea.out]; exact tell_size a 1 (p1)
  obtain ⟨db, eb⟩ : ∃ d, Hid (tellB b 2 = d) := ⟨_, Lib.hid rfl⟩
  have sb : db.size ≤ 30 := by rw [← eb.out]; exact tell_size b 2 (p2)
  have z0 : (⟨#[32]⟩ : ByteArray).size = 1 := rfl
  have f0 := cat_run ⟨#[32]⟩ d (by omega)
  have zc : (⟨#[107, 103, 101, 116]⟩ : ByteArray).size = 4 := rfl
  have f1 := cat_run ((⟨#[107, 103, 101, 116]⟩ : ByteArray)) da (by first | omega | (simp only [ByteArray.size_append]; omega))
  have f2 := cat_run ((⟨#[107, 103, 101, 116]⟩ : ByteArray) ++ da) db (by first | omega | (simp only [ByteArray.size_append]; omega))
  have HE : Hid ((⟨#[107, 103, 101, 116]⟩ : ByteArray) ++ da ++ db = textC 10 a b c i) := Lib.hid (by
    rw [← ea.out, ← eb.out]
    refine ba_ext ?_
    rw [show textC 10 a b c i = textC ((10 : Nat) : Int) a b c i from rfl, textC_list]
    simp only [ba_list]
    simp [txC, tellB, tellL, fNm, fA, fB, fC, fI, wnS, mnS, decS])
  have hS := sbegin hT 10 a b c i
  have hk := hS.2
  clear z0 zc hok p1 p2 p3 p4 hT
  go_enter Tryz.func27, Tryz.ntmps27
  go_wp2_with (first | (go_at_call 46; (with_reducible refine (itoa_op i d hd (by omega) _ (s_tells hS).tab).mono ?_); rintro e w1 ⟨rfl, hb⟩; replace hS := skeep hS hb; clear hk; have hk := hS.2; clear hb))
  have ST := Lib.hid (skeep hS ((Below.refl _ _).drew))
  clear hS hk
  go_region_held3 (fun w' => VT w w' ∧ (w.heap.size < w'.heap.size ∧ w'.cell? ⟨w.heap.size, 0, none⟩ = some (.int .i64 10) ∧ w'.cell? ⟨w.heap.size, 1, none⟩ = some (.int .i64 a) ∧ w'.cell? ⟨w.heap.size, 2, none⟩ = some (.int .i64 b) ∧ w'.cell? ⟨w.heap.size, 3, none⟩ = some (.int .i64 c) ∧ w'.cell? ⟨w.heap.size, 4, none⟩ = some (.int .i64 i))) (first | exact ST.out | exact skeep (by assumption) hb) (first | (go_at_call 47; (with_reducible refine (r_is a (by omega) da ea _ (s_tells (by assumption))).mono ?_); rintro e w' ⟨rfl, hb⟩) | (go_at_call 49; (with_reducible refine (k_is b (by omega) db eb _ (s_tells (by assumption))).mono ?_); rintro e w' ⟨rfl, hb⟩))
  have hB : VT w w' := And.left (by assumption)
  have HB := Lib.hid hB
  clear hB
  go_wp2_with fail
  go_ret
  exact ⟨ret_str HE.out, HB.out.1⟩
set_option maxRecDepth 100000 in
set_option maxHeartbeats 2000000 in
theorem it_11 (a b c i : Nat) (hok : okB 11 a b c i = true) (w : World) (hT : Tells w) : Calls Tryz.prog 27 #[.agg #[.int .i64 11, .int .i64 a, .int .i64 b, .int .i64 c, .int .i64 i]] w fun e w' => e = .returned (.string (textC 11 a b c i)) ∧ Below w.heap.size w w' := by
  obtain ⟨p1, p2, p3, p4⟩ := ok_parts hok
  have gb := ok_bounds hok
  have hma : a < 3 := by simp only [fitB, decide_eq_true_eq] at p1; have : hiOf (fA.getD 11 0) = 2 := rfl; omega
  obtain ⟨d, hd⟩ : ∃ d, Hid (decS i = d) := ⟨_, Lib.hid rfl⟩
  have hds : d.size ≤ 20 := by rw [← hd.out]; exact dec_size i (by omega)
  obtain ⟨da, ea⟩ : ∃ d, Hid (mnS a = d) := ⟨_, Lib.hid rfl⟩
  have sa : da.size ≤ 30 := by rw [← ea.out]; exact Nat.le_trans (mn_size ⟨a, hma⟩) (by decide)
  obtain ⟨db, eb⟩ : ∃ d, Hid (tellB b 2 = d) := ⟨_, Lib.hid rfl⟩
  have sb : db.size ≤ 30 := by rw [← eb.out]; exact tell_size b 2 (p2)
  obtain ⟨dc, ec⟩ : ∃ d, Hid (tellB c 2 = d) := ⟨_, Lib.hid rfl⟩
  have sc : dc.size ≤ 30 := by rw [← ec.out]; exact tell_size c 2 (p3)
  have z0 : (⟨#[32]⟩ : ByteArray).size = 1 := rfl
  have f0 := cat_run ⟨#[32]⟩ d (by omega)
  have zc : (⟨#[105, 110, 118, 32]⟩ : ByteArray).size = 4 := rfl
  have f1 := cat_run ((⟨#[105, 110, 118, 32]⟩ : ByteArray)) da (by first | omega | (simp only [ByteArray.size_append]; omega))
  have f2 := cat_run ((⟨#[105, 110, 118, 32]⟩ : ByteArray) ++ da) db (by first | omega | (simp only [ByteArray.size_append]; omega))
  have f3 := cat_run ((⟨#[105, 110, 118, 32]⟩ : ByteArray) ++ da ++ db) dc (by first | omega | (simp only [ByteArray.size_append]; omega))
  have HE : Hid ((⟨#[105, 110, 118, 32]⟩ : ByteArray) ++ da ++ db ++ dc = textC 11 a b c i) := Lib.hid (by
    rw [← ea.out, ← eb.out, ← ec.out]
    refine ba_ext ?_
    rw [show textC 11 a b c i = textC ((11 : Nat) : Int) a b c i from rfl, textC_list]
    simp only [ba_list]
    simp [txC, tellB, tellL, fNm, fA, fB, fC, fI, wnS, mnS, decS])
  have hS := sbegin hT 11 a b c i
  have hk := hS.2
  clear z0 zc hok p1 p2 p3 p4 hT
  go_enter Tryz.func27, Tryz.ntmps27
  go_wp2_with (first | (go_at_call 46; (with_reducible refine (itoa_op i d hd (by omega) _ (s_tells hS).tab).mono ?_); rintro e w1 ⟨rfl, hb⟩; replace hS := skeep hS hb; clear hk; have hk := hS.2; clear hb))
  have ST := Lib.hid (skeep hS ((Below.refl _ _).drew))
  clear hS hk
  go_region_held3 (fun w' => VT w w' ∧ (w.heap.size < w'.heap.size ∧ w'.cell? ⟨w.heap.size, 0, none⟩ = some (.int .i64 11) ∧ w'.cell? ⟨w.heap.size, 1, none⟩ = some (.int .i64 a) ∧ w'.cell? ⟨w.heap.size, 2, none⟩ = some (.int .i64 b) ∧ w'.cell? ⟨w.heap.size, 3, none⟩ = some (.int .i64 c) ∧ w'.cell? ⟨w.heap.size, 4, none⟩ = some (.int .i64 i))) (first | exact ST.out | exact skeep (by assumption) hb) (first | (go_at_call 50; (with_reducible refine (h_is a hma da ea _).mono ?_); rintro e w' ⟨rfl, hb⟩) | (go_at_call 49; (with_reducible refine (k_is b (by omega) db eb _ (s_tells (by assumption))).mono ?_); rintro e w' ⟨rfl, hb⟩) | (go_at_call 49; (with_reducible refine (k_is c (by omega) dc ec _ (s_tells (by assumption))).mono ?_); rintro e w' ⟨rfl, hb⟩))
  have hB : VT w w' := And.left (by assumption)
  have HB := Lib.hid hB
  clear hB
  go_wp2_with fail
  go_ret
  exact ⟨ret_str HE.out, HB.out.1⟩
set_option maxRecDepth 100000 in
set_option maxHeartbeats 2000000 in
theorem it_12 (a b c i : Nat) (hok : okB 12 a b c i = true) (w : World) (hT : Tells w) : Calls Tryz.prog 27 #[.agg #[.int .i64 12, .int .i64 a, .int .i64 b, .int .i64 c, .int .i64 i]] w fun e w' => e = .returned (.string (textC 12 a b c i)) ∧ Below w.heap.size w w' := by
  obtain ⟨p1, p2, p3, p4⟩ := ok_parts hok
  have gb := ok_bounds hok
  obtain ⟨d, hd⟩ : ∃ d, Hid (decS i = d) := ⟨_, Lib.hid rfl⟩
  have hds : d.size ≤ 20 := by rw [← hd.out]; exact dec_size i (by omega)
  have z0 : (⟨#[32]⟩ : ByteArray).size = 1 := rfl
  have f0 := cat_run ⟨#[32]⟩ d (by omega)
  have zc : (⟨#[121, 105, 101, 108, 100]⟩ : ByteArray).size = 5 := rfl
  have HE : Hid ((⟨#[121, 105, 101, 108, 100]⟩ : ByteArray) = textC 12 a b c i) := Lib.hid (by
    refine ba_ext ?_
    rw [show textC 12 a b c i = textC ((12 : Nat) : Int) a b c i from rfl, textC_list]
    simp only [ba_list]
    simp [txC, tellB, tellL, fNm, fA, fB, fC, fI, wnS, mnS, decS])
  have hS := sbegin hT 12 a b c i
  have hk := hS.2
  clear z0 zc hok p1 p2 p3 p4 hT
  go_enter Tryz.func27, Tryz.ntmps27
  go_wp2_with (first | (go_at_call 46; (with_reducible refine (itoa_op i d hd (by omega) _ (s_tells hS).tab).mono ?_); rintro e w1 ⟨rfl, hb⟩; replace hS := skeep hS hb; clear hk; have hk := hS.2; clear hb))
  go_ret
  exact ⟨ret_str HE.out, s_bel hS⟩
set_option maxRecDepth 100000 in
set_option maxHeartbeats 2000000 in
theorem it_13 (a b c i : Nat) (hok : okB 13 a b c i = true) (w : World) (hT : Tells w) : Calls Tryz.prog 27 #[.agg #[.int .i64 13, .int .i64 a, .int .i64 b, .int .i64 c, .int .i64 i]] w fun e w' => e = .returned (.string (textC 13 a b c i)) ∧ Below w.heap.size w w' := by
  obtain ⟨p1, p2, p3, p4⟩ := ok_parts hok
  have gb := ok_bounds hok
  obtain ⟨d, hd⟩ : ∃ d, Hid (decS i = d) := ⟨_, Lib.hid rfl⟩
  have hds : d.size ≤ 20 := by rw [← hd.out]; exact dec_size i (by omega)
  have z0 : (⟨#[32]⟩ : ByteArray).size = 1 := rfl
  have f0 := cat_run ⟨#[32]⟩ d (by omega)
  have zc : (⟨#[104, 97, 108, 116]⟩ : ByteArray).size = 4 := rfl
  have HE : Hid ((⟨#[104, 97, 108, 116]⟩ : ByteArray) = textC 13 a b c i) := Lib.hid (by
    refine ba_ext ?_
    rw [show textC 13 a b c i = textC ((13 : Nat) : Int) a b c i from rfl, textC_list]
    simp only [ba_list]
    simp [txC, tellB, tellL, fNm, fA, fB, fC, fI, wnS, mnS, decS])
  have hS := sbegin hT 13 a b c i
  have hk := hS.2
  clear z0 zc hok p1 p2 p3 p4 hT
  go_enter Tryz.func27, Tryz.ntmps27
  go_wp2_with (first | (go_at_call 46; (with_reducible refine (itoa_op i d hd (by omega) _ (s_tells hS).tab).mono ?_); rintro e w1 ⟨rfl, hb⟩; replace hS := skeep hS hb; clear hk; have hk := hS.2; clear hb))
  go_ret
  exact ⟨ret_str HE.out, s_bel hS⟩
theorem reftextC_right (op a b c i : Int) (w : World) (hT : Tells w) (hok : Hid (okB op a b c i = true)) (t : ByteArray) (ht : Hid (textC op a b c i = t)) :
    Calls Tryz.prog 27 #[.agg #[.int .i64 op, .int .i64 a, .int .i64 b, .int .i64 c, .int .i64 i]] w fun e w' => e = .returned (.string t) ∧ Below w.heap.size w w' := by
  have g := ok_bounds hok.out
  rw [← ht.out]
  have h := hok.out
  obtain ⟨a, rfl⟩ : ∃ n : Nat, a = n := ⟨a.toNat, by omega⟩
  obtain ⟨b, rfl⟩ : ∃ n : Nat, b = n := ⟨b.toNat, by omega⟩
  obtain ⟨c, rfl⟩ : ∃ n : Nat, c = n := ⟨c.toNat, by omega⟩
  obtain ⟨i, rfl⟩ : ∃ n : Nat, i = n := ⟨i.toNat, by omega⟩
  obtain rfl | rfl | rfl | rfl | rfl | rfl | rfl | rfl | rfl | rfl | rfl | rfl | rfl : op = 1 ∨ op = 2 ∨ op = 3 ∨ op = 4 ∨ op = 5 ∨ op = 6 ∨ op = 7 ∨ op = 8 ∨ op = 9 ∨ op = 10 ∨ op = 11 ∨ op = 12 ∨ op = 13 := by omega
  · exact it_1 a b c i h w hT
  · exact it_2 a b c i h w hT
  · exact it_3 a b c i h w hT
  · exact it_4 a b c i h w hT
  · exact it_5 a b c i h w hT
  · exact it_6 a b c i h w hT
  · exact it_7 a b c i h w hT
  · exact it_8 a b c i h w hT
  · exact it_9 a b c i h w hT
  · exact it_10 a b c i h w hT
  · exact it_11 a b c i h w hT
  · exact it_12 a b c i h w hT
  · exact it_13 a b c i h w hT
end Go.Proofs.YtaekccgcnlepaaaGreatDoor
namespace Go.Proofs.YtaekccgcnlepaaaGreatDoor
open Go.ChangeShapes Go.WideShapes Go.ChangeAt Go.RowKit Go.Maps
set_option linter.unusedVariables false
set_option linter.unusedSimpArgs false
/-- A row at a block: its cells. -/
def RowG (w : World) (g : Nat) (l : List Value) : Prop := g < w.heap.size ∧ ∀ (j : Nat) v, l[j]? = some v → w.cell? ⟨g, j, none⟩ = some v
theorem RowG.below {w w' : World} {g : Nat} {l : List Value} (h : RowG w g l) (hb : Below w.heap.size w w') : RowG w' g l :=
  ⟨Nat.lt_of_lt_of_le h.1 hb.size, fun j v hj => (hb.cell (p := ⟨g, j, none⟩) h.1).trans (h.2 j v hj)⟩
theorem RowG.word {w : World} {g : Nat} {ws : List ByteArray} (h : RowG w g (wsV ws)) (j : Nat) (hj : j < ws.length) : w.cell? ⟨g, j, none⟩ = some (.string (ws.getD j ⟨#[]⟩)) := h.2 j _ (wsV_at ws j hj)
theorem RowC.g {w : World} {a : Option Addr} {l : List Value} (h : RowC w a l) (hl : 0 < l.length) : ∃ g, a = some ⟨g, 0, none⟩ ∧ RowG w g l := by
  obtain ⟨g, rfl, h2, _⟩ := h 0 _ (List.getElem?_eq_getElem hl)
  refine ⟨g, rfl, h2, fun j v hj => ?_⟩
  obtain ⟨g', h3, _, h4⟩ := h j v hj
  injection h3 with h3
  injection h3 with h3
  subst h3
  exact h4
def nmV (t : List UInt8 × Nat × Nat) : Value := .string ⟨t.1.toArray⟩
def plV (t : List UInt8 × Nat × Nat) : Value := .int .i64 (t.2.2 : Int)
theorem ba_leq (a b : ByteArray) : (a.toList == b.toList) = decide (a = b) := by
  by_cases h : a = b
  · subst h; simp
  · rw [decide_eq_false h, beq_eq_false_iff_ne]
    intro e
    rw [Lib.toList_data, Lib.toList_data] at e
    exact h (ByteArray.ext (Array.toList_inj.1 e))
theorem eq_yes {x : ByteArray} {l : List UInt8} (h : x.data.toList = l) : (x.toList == l) = true := by rw [Lib.toList_data, h]; simp
theorem eq_no {x : ByteArray} {l : List UInt8} (h : x.data.toList ≠ l) : (x.toList == l) = false := by rw [Lib.toList_data, beq_eq_false_iff_ne]; exact h
theorem num_lt {l : List UInt8} {k : Nat} (h : numL l = some k) : k < 1000000000 := (num_atoi l k h).2.1
set_option maxRecDepth 100000 in
set_option maxHeartbeats 2000000 in
theorem aw_cnt (s : ByteArray) (hs : s.size ≤ 900) (g c n : Nat) (HN : Hid ((tokB s).length = n)) (hn0 : 0 < n) (hn1 : n ≤ 1000) (an ap : Option Addr) (cn cp m : Nat) (NL : List (List UInt8 × Nat × Nat)) (hNL : Hid (NL.length = m)) (hm : m ≤ 1000) (w : World) (hW : RowG w g (wsV (tokB s))) (hN : RowC w an (NL.map nmV)) (hP : RowC w ap (NL.map plV)) (h0 : ((tokB s).getD 0 ⟨#[]⟩).data.toList = [119, 111, 114, 100]) (h2 : n ≠ 2) : Calls Tryz.prog 19 #[.slice (some ⟨g, 0, none⟩) n c, .string s, .slice an m cn, .slice ap m cp] w fun e w' => e = .returned (.tuple #[.int .u32 0, .int .i64 111]) ∧ Below w.heap.size w w' := by
  obtain ⟨x0, hx0⟩ : ∃ x0, (tokB s).getD 0 ⟨#[]⟩ = x0 := ⟨_, rfl⟩; have c0 := hW.word 0 (by rw [HN.out]; exact hn0); rw [hx0] at c0
  rw [hx0] at h0
  have e0 := eq_yes h0
  have e1 : ((n : Int) != 2) = true := by rw [bne_iff_ne]; omega
  have i0 : (0 : Int) < (n : Int) := by omega
  clear hW hN hP hx0 h0 h2
  go_enter Tryz.func19, Tryz.ntmps19
  go_wp2_with fail
  go_ret2
  exact ⟨rfl, Below.refl _ _⟩
set_option maxRecDepth 100000 in
set_option maxHeartbeats 2000000 in
theorem aw_num (s : ByteArray) (hs : s.size ≤ 900) (g c n : Nat) (HN : Hid ((tokB s).length = n)) (hn0 : 0 < n) (hn1 : n ≤ 1000) (an ap : Option Addr) (cn cp m : Nat) (NL : List (List UInt8 × Nat × Nat)) (hNL : Hid (NL.length = m)) (hm : m ≤ 1000) (w : World) (hW : RowG w g (wsV (tokB s))) (hN : RowC w an (NL.map nmV)) (hP : RowC w ap (NL.map plV)) (h0 : ((tokB s).getD 0 ⟨#[]⟩).data.toList = [119, 111, 114, 100]) (h2 : n = 2) (v t : Int) (h : Hid ((match numL ((tokB s).getD 1 ⟨#[]⟩).data.toList with | some k => ((k : Int), (0 : Int)) | none => (0, 112)) = (v, t))) : Calls Tryz.prog 19 #[.slice (some ⟨g, 0, none⟩) n c, .string s, .slice an m cn, .slice ap m cp] w fun e w' => e = .returned (.tuple #[.int .u32 v, .int .i64 t]) ∧ Below w.heap.size w w' := by
  subst h2
  obtain ⟨x0, hx0⟩ : ∃ x0, (tokB s).getD 0 ⟨#[]⟩ = x0 := ⟨_, rfl⟩; have c0 := hW.word 0 (by rw [HN.out]; exact hn0); rw [hx0] at c0
  rw [hx0] at h0
  have e0 := eq_yes h0
  have c1 := hW.word 1 (by rw [HN.out]; decide)
  obtain ⟨x1, hx1⟩ : ∃ x1, (tokB s).getD 1 ⟨#[]⟩ = x1 := ⟨_, rfl⟩
  have hxz : x1.size ≤ 1000000 := by rw [← hx1]; exact Nat.le_trans (tok_size s 1) (by omega)
  have hh := h.out
  rw [hx1] at c1 hh
  clear hN hP hx0 h0 hW hx1
  cases hq : numL x1.data.toList with
  | none =>
    rw [hq] at hh
    obtain ⟨rfl, rfl⟩ := Prod.mk.inj hh
    have HO : Hid (numO (numL x1.data.toList) = (0, false)) := Lib.hid (by rw [hq]; rfl)
    clear hh hq
    go_enter Tryz.func19, Tryz.ntmps19
    go_wp2_with (first | (go_at_call 36; (with_reducible refine (rnum_is x1 hxz 0 false HO _).mono ?_); rintro e w1 ⟨rfl, hb⟩))
    go_ret2
    exact ⟨rfl, hb⟩
  | some k =>
    rw [hq] at hh
    obtain ⟨rfl, rfl⟩ := Prod.mk.inj hh
    have hk := num_lt hq
    have HO : Hid (numO (numL x1.data.toList) = ((k : Int), true)) := Lib.hid (by rw [hq]; rfl)
    have kw : IntKind.u32.wrap (k : Int) = (k : Int) := by rw [IntKind.wrap_u32]; omega
    have kb : (k : Int) < 1000000000 := by omega
    have ka : (0 : Int) ≤ (k : Int) := by omega
    clear hh hq hk
    go_enter Tryz.func19, Tryz.ntmps19
    go_wp2_with (first | (go_at_call 36; (with_reducible refine (rnum_is x1 hxz (k : Int) true HO _).mono ?_); rintro e w1 ⟨rfl, hb⟩))
    go_ret2
    exact ⟨rfl, hb⟩
/-- What AsmLine's answer comes to. -/
def outV (X : (Int × Int × Int × Int × Int) × Option Nat) : Int × Int := match X with
  | (_, some e) => (0, codR (some e))
  | ((a0, a1, a2, a3, a4), none) => (wordC a0 a1 a2 a3 a4, 0)
theorem line_ok {s : ByteArray} {a0 a1 a2 a3 a4 : Int} (h : lineV s = ((a0, a1, a2, a3, a4), none)) : okB a0 a1 a2 a3 a4 = true := by
  unfold lineV at h
  exact parseV_ok h
set_option maxRecDepth 100000 in
set_option maxHeartbeats 8000000 in
theorem aw_line (s : ByteArray) (hs : s.size ≤ 900) (g c n : Nat) (HN : Hid ((tokB s).length = n)) (hn0 : 0 < n) (hn1 : n ≤ 1000) (an ap : Option Addr) (cn cp m : Nat) (NL : List (List UInt8 × Nat × Nat)) (hNL : Hid (NL.length = m)) (hm : m ≤ 1000) (w : World) (hW : RowG w g (wsV (tokB s))) (hN : RowC w an (NL.map nmV)) (hP : RowC w ap (NL.map plV)) (h0 : ((tokB s).getD 0 ⟨#[]⟩).data.toList ≠ [119, 111, 114, 100]) (hJ : ¬ JmpN (tokB s)) (v t : Int) (h : Hid (outV (lineV s) = (v, t))) : Calls Tryz.prog 19 #[.slice (some ⟨g, 0, none⟩) n c, .string s, .slice an m cn, .slice ap m cp] w fun e w' => e = .returned (.tuple #[.int .u32 v, .int .i64 t]) ∧ Below w.heap.size w w' := by
  obtain ⟨x0, hx0⟩ : ∃ x0, (tokB s).getD 0 ⟨#[]⟩ = x0 := ⟨_, rfl⟩; have c0 := hW.word 0 (by rw [HN.out]; exact hn0); rw [hx0] at c0
  rw [hx0] at h0
  have e0 := eq_no h0
  have cl := hW.word (n - 1) (by rw [HN.out]; omega)
  obtain ⟨y, hy⟩ : ∃ y, (tokB s).getD (n - 1) ⟨#[]⟩ = y := ⟨_, rfl⟩
  have hyz : y.size ≤ 1000000 := by rw [← hy]; exact Nat.le_trans (tok_size s (n - 1)) (by omega)
  rw [hy] at cl
  have i0 : (0 : Int) < (n : Int) := by omega
  have hmx : (n : Int) - 1 = ((n - 1 : Nat) : Int) := by omega
  have k0 : (0 : Int) ≤ ((n - 1 : Nat) : Int) := by omega
  have k1 : ((n - 1 : Nat) : Int) < (n : Int) := by omega
  have kw : IntKind.i64.wrap ((n : Int) - 1) = ((n - 1 : Nat) : Int) := by rw [IntKind.wrap_i64]; omega
  have hnm : ∀ b, nameL y.data.toList = b → Hid (nameL y.data.toList = b) := fun b e => Lib.hid e
  obtain ⟨X, hX⟩ : ∃ X, lineV s = X := ⟨_, rfl⟩
  have HC : Hid (CodeO X.2) := Lib.hid (by rw [← hX]; exact line_code s)
  have HX := Lib.hid hX
  have hh := h.out
  rw [hX] at hh
  obtain ⟨⟨a0, a1, a2, a3, a4⟩, o⟩ := X
  have HRa : Hid (∀ W, Calls Tryz.prog 40 #[.string s] W fun e w' => e = .returned (.tuple #[.agg #[.int .i64 a0, .int .i64 a1, .int .i64 a2, .int .i64 a3, .int .i64 a4], .int .i64 (codR o)]) ∧ Below W.heap.size W w') := Lib.hid (fun W => rasm_is s hs _ HX W)
  have main : (∃ b0 b1 b2 b3 b4 : Bool, ((x0.toList == [106, 109, 112]) = b0 ∧ (x0.toList == [106, 122]) = b1 ∧ ((n : Int) == 2) = b2 ∧ ((n : Int) == 3) = b3 ∧ nameL y.data.toList = b4) ∧ (((b0 && b2) || (b1 && b3)) && b4) = false) := by
    refine ⟨_, _, _, _, _, ⟨rfl, rfl, rfl, rfl, rfl⟩, ?_⟩
    by_cases hb : (x0.toList == [106, 109, 112]) = true ∧ ((n : Int) == 2) = true ∨ (x0.toList == [106, 122]) = true ∧ ((n : Int) == 3) = true
    · have : nameL y.data.toList = false := by
        cases hq : nameL y.data.toList with
        | false => rfl
        | true =>
          refine absurd ?_ hJ
          rcases hb with ⟨h1, h2⟩ | ⟨h1, h2⟩
          · have h3 : n = 2 := by have := of_decide_eq_true (p := (n : Int) = 2) h2; omega
            refine .inl ⟨by rw [hx0]; rw [Lib.toList_data] at h1; exact eq_of_beq h1, by rw [HN.out]; exact h3, ?_⟩
            rw [show (1 : Nat) = n - 1 by omega, hy]; exact hq
          · have h3 : n = 3 := by have := of_decide_eq_true (p := (n : Int) = 3) h2; omega
            refine .inr ⟨by rw [hx0]; rw [Lib.toList_data] at h1; exact eq_of_beq h1, by rw [HN.out]; exact h3, ?_⟩
            rw [show (2 : Nat) = n - 1 by omega, hy]; exact hq
      rw [this, Bool.and_false]
    · cases h1 : (x0.toList == [106, 109, 112]) <;> cases h2 : ((n : Int) == 2) <;> cases h3 : (x0.toList == [106, 122]) <;> cases h4 : ((n : Int) == 3) <;> first | rfl | exact absurd (by rw [h1, h2, h3, h4]; simp) hb
  obtain ⟨b0, b1, b2, b3, b4, ⟨f0, f1, f2, f3, f4⟩, hbb⟩ := main
  have HNm : Hid (∀ W, Calls Tryz.prog 35 #[.string y] W fun e w' => e = .returned (.bool b4) ∧ Below W.heap.size W w') := Lib.hid (fun W => rname_is y hyz b4 (Lib.hid f4) W)
  clear f4 hnm hW hN hP hx0 h0 hJ hy hX
  have HQ := Lib.hid hh
  have pre : (b0 = false ∧ b1 = false) ∨ (b0 = true ∧ b2 = false ∧ b1 = false) ∨ (b1 = true ∧ b3 = false ∧ b0 = false) ∨ (b0 = true ∧ b2 = true ∧ b4 = false ∧ b1 = false) ∨ (b1 = true ∧ b3 = true ∧ b4 = false ∧ b0 = false) := by
    have hx : ¬ (b0 = true ∧ b1 = true) := by
      rintro ⟨h1, h2⟩
      rw [h1] at f0
      rw [h2] at f1
      have g1 := eq_of_beq f0
      have g2 := eq_of_beq f1
      rw [g1] at g2
      cases g2
    cases b0 <;> cases b1 <;> cases b2 <;> cases b3 <;> cases b4 <;> simp at hbb hx ⊢
  clear hh hbb
  rcases pre with ⟨rfl, rfl⟩ | ⟨rfl, rfl, rfl⟩ | ⟨rfl, rfl, rfl⟩ | ⟨rfl, rfl, rfl, rfl⟩ | ⟨rfl, rfl, rfl, rfl⟩
  · cases o with
    | none =>
      obtain ⟨rfl, rfl⟩ := Prod.mk.inj HQ.out
      have HWd : Hid (∀ W, Calls Tryz.prog 39 #[.agg #[.int .i64 a0, .int .i64 a1, .int .i64 a2, .int .i64 a3, .int .i64 a4]] W fun e w' => e = .returned (.int .u32 (wordC a0 a1 a2 a3 a4)) ∧ Below W.heap.size W w') := Lib.hid (fun W => rwordof_is a0 a1 a2 a3 a4 W (Lib.hid (line_ok HX.out)) _ (Lib.hid rfl))
      obtain ⟨vv, hvv⟩ : ∃ vv, wordC a0 a1 a2 a3 a4 = vv := ⟨_, rfl⟩
      rw [hvv] at HWd ⊢
      rw [show codR none = 0 from rfl] at HRa
      go_enter Tryz.func19, Tryz.ntmps19
      go_wp2_with (first | (go_at_call 40; (with_reducible refine (HRa.out _).mono ?_); rintro e w2 ⟨rfl, hb⟩; have HB2 := Lib.hid (hb); clear hb) | (go_at_call 39; (with_reducible refine (HWd.out _).mono ?_); rintro e w3 ⟨rfl, hb⟩; have HB3 := Lib.hid ((HB2.out.alloc HB2.out.size _).trans (hb.mono (HB2.out.alloc HB2.out.size _).size)); clear hb))
      go_ret2
      exact ⟨rfl, HB3.out⟩
    | some er =>
      obtain ⟨rfl, rfl⟩ := Prod.mk.inj HQ.out
      obtain ⟨tt, htt⟩ : ∃ tt, codR (some er) = tt := ⟨_, rfl⟩
      have ht1 : (tt != 0) = true := by rw [← htt]; rcases HC.out with h | h | h | h <;> (first | (cases h; done) | (injection h with h; subst h; decide))
      rw [htt] at HRa ⊢
      go_enter Tryz.func19, Tryz.ntmps19
      go_wp2_with (first | (go_at_call 40; (with_reducible refine (HRa.out _).mono ?_); rintro e w2 ⟨rfl, hb⟩; have HB2 := Lib.hid (hb); clear hb))
      go_ret2
      exact ⟨rfl, HB2.out.alloc HB2.out.size _⟩
  · cases o with
    | none =>
      obtain ⟨rfl, rfl⟩ := Prod.mk.inj HQ.out
      have HWd : Hid (∀ W, Calls Tryz.prog 39 #[.agg #[.int .i64 a0, .int .i64 a1, .int .i64 a2, .int .i64 a3, .int .i64 a4]] W fun e w' => e = .returned (.int .u32 (wordC a0 a1 a2 a3 a4)) ∧ Below W.heap.size W w') := Lib.hid (fun W => rwordof_is a0 a1 a2 a3 a4 W (Lib.hid (line_ok HX.out)) _ (Lib.hid rfl))
      obtain ⟨vv, hvv⟩ : ∃ vv, wordC a0 a1 a2 a3 a4 = vv := ⟨_, rfl⟩
      rw [hvv] at HWd ⊢
      rw [show codR none = 0 from rfl] at HRa
      go_enter Tryz.func19, Tryz.ntmps19
      go_wp2_with (first | (go_at_call 40; (with_reducible refine (HRa.out _).mono ?_); rintro e w2 ⟨rfl, hb⟩; have HB2 := Lib.hid (hb); clear hb) | (go_at_call 39; (with_reducible refine (HWd.out _).mono ?_); rintro e w3 ⟨rfl, hb⟩; have HB3 := Lib.hid ((HB2.out.alloc HB2.out.size _).trans (hb.mono (HB2.out.alloc HB2.out.size _).size)); clear hb))
      go_ret2
      exact ⟨rfl, HB3.out⟩
    | some er =>
      obtain ⟨rfl, rfl⟩ := Prod.mk.inj HQ.out
      obtain ⟨tt, htt⟩ : ∃ tt, codR (some er) = tt := ⟨_, rfl⟩
      have ht1 : (tt != 0) = true := by rw [← htt]; rcases HC.out with h | h | h | h <;> (first | (cases h; done) | (injection h with h; subst h; decide))
      rw [htt] at HRa ⊢
      go_enter Tryz.func19, Tryz.ntmps19
      go_wp2_with (first | (go_at_call 40; (with_reducible refine (HRa.out _).mono ?_); rintro e w2 ⟨rfl, hb⟩; have HB2 := Lib.hid (hb); clear hb))
      go_ret2
      exact ⟨rfl, HB2.out.alloc HB2.out.size _⟩
  · cases o with
    | none =>
      obtain ⟨rfl, rfl⟩ := Prod.mk.inj HQ.out
      have HWd : Hid (∀ W, Calls Tryz.prog 39 #[.agg #[.int .i64 a0, .int .i64 a1, .int .i64 a2, .int .i64 a3, .int .i64 a4]] W fun e w' => e = .returned (.int .u32 (wordC a0 a1 a2 a3 a4)) ∧ Below W.heap.size W w') := Lib.hid (fun W => rwordof_is a0 a1 a2 a3 a4 W (Lib.hid (line_ok HX.out)) _ (Lib.hid rfl))
      obtain ⟨vv, hvv⟩ : ∃ vv, wordC a0 a1 a2 a3 a4 = vv := ⟨_, rfl⟩
      rw [hvv] at HWd ⊢
      rw [show codR none = 0 from rfl] at HRa
      go_enter Tryz.func19, Tryz.ntmps19
      go_wp2_with (first | (go_at_call 40; (with_reducible refine (HRa.out _).mono ?_); rintro e w2 ⟨rfl, hb⟩; have HB2 := Lib.hid (hb); clear hb) | (go_at_call 39; (with_reducible refine (HWd.out _).mono ?_); rintro e w3 ⟨rfl, hb⟩; have HB3 := Lib.hid ((HB2.out.alloc HB2.out.size _).trans (hb.mono (HB2.out.alloc HB2.out.size _).size)); clear hb))
      go_ret2
      exact ⟨rfl, HB3.out⟩
    | some er =>
      obtain ⟨rfl, rfl⟩ := Prod.mk.inj HQ.out
      obtain ⟨tt, htt⟩ : ∃ tt, codR (some er) = tt := ⟨_, rfl⟩
      have ht1 : (tt != 0) = true := by rw [← htt]; rcases HC.out with h | h | h | h <;> (first | (cases h; done) | (injection h with h; subst h; decide))
      rw [htt] at HRa ⊢
      go_enter Tryz.func19, Tryz.ntmps19
      go_wp2_with (first | (go_at_call 40; (with_reducible refine (HRa.out _).mono ?_); rintro e w2 ⟨rfl, hb⟩; have HB2 := Lib.hid (hb); clear hb))
      go_ret2
      exact ⟨rfl, HB2.out.alloc HB2.out.size _⟩
  · cases o with
    | none =>
      obtain ⟨rfl, rfl⟩ := Prod.mk.inj HQ.out
      have HWd : Hid (∀ W, Calls Tryz.prog 39 #[.agg #[.int .i64 a0, .int .i64 a1, .int .i64 a2, .int .i64 a3, .int .i64 a4]] W fun e w' => e = .returned (.int .u32 (wordC a0 a1 a2 a3 a4)) ∧ Below W.heap.size W w') := Lib.hid (fun W => rwordof_is a0 a1 a2 a3 a4 W (Lib.hid (line_ok HX.out)) _ (Lib.hid rfl))
      obtain ⟨vv, hvv⟩ : ∃ vv, wordC a0 a1 a2 a3 a4 = vv := ⟨_, rfl⟩
      rw [hvv] at HWd ⊢
      rw [show codR none = 0 from rfl] at HRa
      go_enter Tryz.func19, Tryz.ntmps19
      go_wp2_with (first | (go_at_call 35; (with_reducible refine (HNm.out _).mono ?_); rintro e w1 ⟨rfl, hb⟩; have HB1 := Lib.hid hb; clear hb) | (go_at_call 40; (with_reducible refine (HRa.out _).mono ?_); rintro e w2 ⟨rfl, hb⟩; have HB2 := Lib.hid (HB1.out.trans (hb.mono HB1.out.size)); clear hb) | (go_at_call 39; (with_reducible refine (HWd.out _).mono ?_); rintro e w3 ⟨rfl, hb⟩; have HB3 := Lib.hid ((HB2.out.alloc HB2.out.size _).trans (hb.mono (HB2.out.alloc HB2.out.size _).size)); clear hb))
      go_ret2
      exact ⟨rfl, HB3.out⟩
    | some er =>
      obtain ⟨rfl, rfl⟩ := Prod.mk.inj HQ.out
      obtain ⟨tt, htt⟩ : ∃ tt, codR (some er) = tt := ⟨_, rfl⟩
      have ht1 : (tt != 0) = true := by rw [← htt]; rcases HC.out with h | h | h | h <;> (first | (cases h; done) | (injection h with h; subst h; decide))
      rw [htt] at HRa ⊢
      go_enter Tryz.func19, Tryz.ntmps19
      go_wp2_with (first | (go_at_call 35; (with_reducible refine (HNm.out _).mono ?_); rintro e w1 ⟨rfl, hb⟩; have HB1 := Lib.hid hb; clear hb) | (go_at_call 40; (with_reducible refine (HRa.out _).mono ?_); rintro e w2 ⟨rfl, hb⟩; have HB2 := Lib.hid (HB1.out.trans (hb.mono HB1.out.size)); clear hb))
      go_ret2
      exact ⟨rfl, HB2.out.alloc HB2.out.size _⟩
  · cases o with
    | none =>
      obtain ⟨rfl, rfl⟩ := Prod.mk.inj HQ.out
      have HWd : Hid (∀ W, Calls Tryz.prog 39 #[.agg #[.int .i64 a0, .int .i64 a1, .int .i64 a2, .int .i64 a3, .int .i64 a4]] W fun e w' => e = .returned (.int .u32 (wordC a0 a1 a2 a3 a4)) ∧ Below W.heap.size W w') := Lib.hid (fun W => rwordof_is a0 a1 a2 a3 a4 W (Lib.hid (line_ok HX.out)) _ (Lib.hid rfl))
      obtain ⟨vv, hvv⟩ : ∃ vv, wordC a0 a1 a2 a3 a4 = vv := ⟨_, rfl⟩
      rw [hvv] at HWd ⊢
      rw [show codR none = 0 from rfl] at HRa
      go_enter Tryz.func19, Tryz.ntmps19
      go_wp2_with (first | (go_at_call 35; (with_reducible refine (HNm.out _).mono ?_); rintro e w1 ⟨rfl, hb⟩; have HB1 := Lib.hid hb; clear hb) | (go_at_call 40; (with_reducible refine (HRa.out _).mono ?_); rintro e w2 ⟨rfl, hb⟩; have HB2 := Lib.hid (HB1.out.trans (hb.mono HB1.out.size)); clear hb) | (go_at_call 39; (with_reducible refine (HWd.out _).mono ?_); rintro e w3 ⟨rfl, hb⟩; have HB3 := Lib.hid ((HB2.out.alloc HB2.out.size _).trans (hb.mono (HB2.out.alloc HB2.out.size _).size)); clear hb))
      go_ret2
      exact ⟨rfl, HB3.out⟩
    | some er =>
      obtain ⟨rfl, rfl⟩ := Prod.mk.inj HQ.out
      obtain ⟨tt, htt⟩ : ∃ tt, codR (some er) = tt := ⟨_, rfl⟩
      have ht1 : (tt != 0) = true := by rw [← htt]; rcases HC.out with h | h | h | h <;> (first | (cases h; done) | (injection h with h; subst h; decide))
      rw [htt] at HRa ⊢
      go_enter Tryz.func19, Tryz.ntmps19
      go_wp2_with (first | (go_at_call 35; (with_reducible refine (HNm.out _).mono ?_); rintro e w1 ⟨rfl, hb⟩; have HB1 := Lib.hid hb; clear hb) | (go_at_call 40; (with_reducible refine (HRa.out _).mono ?_); rintro e w2 ⟨rfl, hb⟩; have HB2 := Lib.hid (HB1.out.trans (hb.mono HB1.out.size)); clear hb))
      go_ret2
      exact ⟨rfl, HB2.out.alloc HB2.out.size _⟩
set_option maxRecDepth 100000 in
set_option maxHeartbeats 8000000 in
theorem aw_jmp (s : ByteArray) (hs : s.size ≤ 900) (g c n : Nat) (HN : Hid ((tokB s).length = n)) (hn0 : 0 < n) (hn1 : n ≤ 1000) (an ap : Option Addr) (cn cp m : Nat) (NL : List (List UInt8 × Nat × Nat)) (hNL : Hid (NL.length = m)) (hm : m ≤ 1000) (w : World) (hW : RowG w g (wsV (tokB s))) (hN : RowC w an (NL.map nmV)) (hP : RowC w ap (NL.map plV)) (h0 : ((tokB s).getD 0 ⟨#[]⟩).data.toList = [106, 109, 112]) (h2 : n = 2) (hnl : nameL ((tokB s).getD 1 ⟨#[]⟩).data.toList = true) (v t : Int) (h : Hid ((match fnd NL ((tokB s).getD 1 ⟨#[]⟩).data.toList with | some p => outV (endR (4, 0, 0, 0, p.2)) | none => ((0 : Int), (105 : Int))) = (v, t))) : Calls Tryz.prog 19 #[.slice (some ⟨g, 0, none⟩) n c, .string s, .slice an m cn, .slice ap m cp] w fun e w' => e = .returned (.tuple #[.int .u32 v, .int .i64 t]) ∧ Below w.heap.size w w' := by
  subst h2
  obtain ⟨x0, hx0⟩ : ∃ x0, (tokB s).getD 0 ⟨#[]⟩ = x0 := ⟨_, rfl⟩; have c0 := hW.word 0 (by rw [HN.out]; exact hn0); rw [hx0] at c0
  rw [hx0] at h0
  have e0 := eq_no (l := [119, 111, 114, 100]) (by rw [h0]; decide)
  have e4 := eq_yes h0
  have e5 := eq_no (l := [106, 122]) (by rw [h0]; decide)
  have HN0 := Lib.hid hN
  have HP0 := Lib.hid hP
  have cl := hW.word 1 (by rw [HN.out]; decide)
  obtain ⟨y, hy⟩ : ∃ y, (tokB s).getD 1 ⟨#[]⟩ = y := ⟨_, rfl⟩
  have hyz : y.size ≤ 1000000 := by rw [← hy]; exact Nat.le_trans (tok_size s 1) (by omega)
  have hh := h.out
  rw [hy] at cl hnl hh
  have HNm : Hid (∀ W, Calls Tryz.prog 35 #[.string y] W fun e w' => e = .returned (.bool true) ∧ Below W.heap.size W w') := Lib.hid (fun W => rname_is y hyz true (Lib.hid hnl) W)
  have HGl := Lib.hid hW.1
  clear hW hN hP hx0 h0 hy hnl
  go_enter Tryz.func19, Tryz.ntmps19
  go_upto_region 11 with (first | (go_at_call 35; (with_reducible refine (HNm.out _).mono ?_); rintro e w1 ⟨rfl, hb⟩; have HB1 := Lib.hid hb; have c0b := (hb.cell (p := ⟨g, 0, none⟩) HGl.out).trans c0; clear hb))
  generalize hA : World.alloc w1 _ = wA
  obtain ⟨P, hP⟩ : ∃ P, P = w1.heap.size := ⟨_, rfl⟩
  have HBa : Hid (Below w1.heap.size w1 wA) := Lib.hid (by rw [← hA]; exact (Below.refl _ _).alloc (Nat.le_refl _) _)
  have HJA : Hid (I5 wA P 4 0 0 0 0) := Lib.hid (by rw [← hA, hP]; exact I5.new _ _ _ _ _ _ _)
  have HBA := Lib.hid (HB1.out.trans (HBa.out.mono HB1.out.size))
  have HPl : Hid (w.heap.size ≤ P) := Lib.hid (by rw [hP]; exact HB1.out.size)
  have c0d := (HBa.out.cell (p := ⟨g, 0, none⟩) (Nat.lt_of_lt_of_le HGl.out HB1.out.size)).trans c0b
  have HNr := Lib.hid (HN0.out.below HBA.out)
  have HPr := Lib.hid (HP0.out.below HBA.out)
  rw [← hP]
  clear hP hA c0b c0 cl
  obtain ⟨nm, hnm⟩ : ∃ nm, y.data.toList = nm := ⟨_, rfl⟩
  have HYn := Lib.hid hnm
  rw [hnm] at hh
  clear hnm
  go_upto_region 19 with fail
  go_loopw [16, 17] (fun tz j wr => ∃ k : Nat, k ≤ m ∧ j = .int .i64 k ∧ tz = .int .i64 (toV (fnd (NL.take k) nm)) ∧ Below wA.heap.size wA wr) (fun _ j _ => m - (intOf j).toNat)
  case atStart => exact ⟨0, by omega, rfl, rfl, Below.refl _ _⟩
  case round =>
    obtain ⟨k, hk, rfl, rfl, hbr⟩ := hrel
    have HBr := Lib.hid hbr
    by_cases hlt : k < m
    · have hkN : k < NL.length := by rw [hNL.out]; exact hlt
      obtain ⟨gn, rfl, hgn, hcn⟩ := HNr.out k (nmV NL[k]) (by rw [List.getElem?_map, List.getElem?_eq_getElem hkN]; rfl)
      obtain ⟨gp, rfl, hgp, hcp⟩ := HPr.out k (plV NL[k]) (by rw [List.getElem?_map, List.getElem?_eq_getElem hkN]; rfl)
      have cn1 := (hbr.cell (p := ⟨gn, k, none⟩) hgn).trans hcn
      have cp1 := (hbr.cell (p := ⟨gp, k, none⟩) hgp).trans hcp
      have hst := to_step NL nm k hkN
      obtain ⟨z, hz⟩ : ∃ z : ByteArray, (⟨(NL[k]).1.toArray⟩ : ByteArray) = z := ⟨_, rfl⟩
      obtain ⟨pl, hpl⟩ : ∃ pl : Nat, (NL[k]).2.2 = pl := ⟨_, rfl⟩
      have hzz : (NL[k]).1 = nm ↔ z = y := ⟨fun e => by rw [← hz, e, ← HYn.out], fun e => by rw [← HYn.out, ← e, ← hz]⟩
      unfold nmV at cn1
      unfold plV at cp1
      rw [hz] at cn1
      rw [hpl] at cp1 hst
      obtain ⟨tv, htv⟩ : ∃ tv, toV (fnd (NL.take k) nm) = tv := ⟨_, rfl⟩
      rw [htv] at hst ⊢
      have HST := Lib.hid hst
      have HZZ := Lib.hid hzz
      have i1 : (k : Int) < (m : Int) := by omega
      have i2 : (0 : Int) ≤ (k : Int) := by omega
      clear hst hzz hz hpl htv hcn hcp hbr hgn hgp
      by_cases hzy : z = y
      · have he : (z.toList == y.toList) = true := by rw [ba_leq]; exact decide_eq_true hzy
        by_cases htl : tv < 0
        · have HS : Hid (toV (fnd (NL.take (k + 1)) nm) = (pl : Int)) := Lib.hid (by rw [HST.out, if_pos ⟨HZZ.out.2 hzy, htl⟩])
          have ht9 : decide (tv < 0) = true := decide_eq_true htl
          clear htl hzy
          go_wp2_with fail
          go_roundw
          case rel => exact ⟨k + 1, by omega, by go_num, by rw [HS.out], HBr.out⟩
          case measure => simp [intOf]; omega
        · have HS : Hid (toV (fnd (NL.take (k + 1)) nm) = tv) := Lib.hid (by rw [HST.out, if_neg (fun e => htl e.2)])
          have ht9 : decide (tv < 0) = false := decide_eq_false htl
          clear htl hzy
          go_wp2_with fail
          go_roundw
          case rel => exact ⟨k + 1, by omega, by go_num, by rw [HS.out], HBr.out⟩
          case measure => simp [intOf]; omega
      · have he : (z.toList == y.toList) = false := by rw [ba_leq]; exact decide_eq_false hzy
        have HS : Hid (toV (fnd (NL.take (k + 1)) nm) = tv) := Lib.hid (by rw [HST.out, if_neg (fun e => hzy (HZZ.out.1 e.1))])
        clear hzy
        go_wp2_with fail
        go_roundw
        case rel => exact ⟨k + 1, by omega, by go_num, by rw [HS.out], HBr.out⟩
        case measure => simp [intOf]; omega
    · obtain rfl : k = m := by omega
      rw [List.take_of_length_le (by rw [hNL.out]; exact Nat.le_refl _)]
      have HJr := Lib.hid (HJA.out.below hbr)
      have HBw := Lib.hid (HBA.out.trans (hbr.mono HBA.out.size))
      have hdd : decide (k < k) = false := by simp
      clear hbr hlt
      cases hq : fnd NL nm with
      | none =>
        rw [hq] at hh
        obtain ⟨rfl, rfl⟩ := Prod.mk.inj hh
        rw [show toV none = -1 from rfl]
        clear hh hq
        go_wp2_with fail
        go_ret2
        exact ⟨rfl, HBw.out⟩
      | some p =>
        rw [hq] at hh
        simp only at hh
        have hp0 : 0 ≤ p.2 := by unfold fnd at hq; cases hf : NL.find? (fun t => decide (t.1 = nm)) with | none => (rw [hf] at hq; cases hq) | some t9 => (rw [hf] at hq; injection hq with hq; rw [← hq]; simp)
        rw [show toV (some p) = p.2 from rfl]
        obtain ⟨tz, hto⟩ : ∃ tz, p.2 = tz := ⟨_, rfl⟩
        rw [hto] at hh hp0 ⊢
        have ht9 : decide (tz < 0) = false := decide_eq_false (by omega)
        clear hq hto hp0
        have r0 := HJr.out.c0
        have r1 := HJr.out.c1
        have r2 := HJr.out.c2
        have r3 := HJr.out.c3
        have r4 := HJr.out.c4
        have rf := HJr.out.fz
        go_upto_region 26 with fail
        generalize hA : World.setCell wr _ _ = wC
        have HJ9 : Hid (I5 wC P 4 0 0 0 tz) := Lib.hid (by rw [← hA]; exact HJr.out.put.2.2.2.2 _)
        have HB9 : Hid (Below w.heap.size w wC) := Lib.hid (by rw [← hA]; exact HBw.out.setCell HPl.out _)
        clear r0 r1 r2 r3 r4 rf hA
        have r0 := HJ9.out.c0
        have r1 := HJ9.out.c1
        have r2 := HJ9.out.c2
        have r3 := HJ9.out.c3
        have r4 := HJ9.out.c4
        by_cases hok : okB 4 0 0 0 tz = true
        · have HVI : Hid (∀ W, Calls Tryz.prog 38 #[.agg #[.int .i64 4, .int .i64 0, .int .i64 0, .int .i64 0, .int .i64 tz]] W fun e w' => e = .returned (.int .i64 0) ∧ Below W.heap.size W w') := Lib.hid (fun W => vi_is 4 0 0 0 tz 0 (Lib.hid (codeI_ok hok)) W)
          have HWd : Hid (∀ W, Calls Tryz.prog 39 #[.agg #[.int .i64 4, .int .i64 0, .int .i64 0, .int .i64 0, .int .i64 tz]] W fun e w' => e = .returned (.int .u32 (wordC 4 0 0 0 tz)) ∧ Below W.heap.size W w') := Lib.hid (fun W => rwordof_is 4 0 0 0 tz W (Lib.hid hok) _ (Lib.hid rfl))
          obtain ⟨rfl, rfl⟩ : v = wordC 4 0 0 0 tz ∧ t = 0 := by (have h9 : outV (endR (4, 0, 0, 0, tz)) = (v, t) := hh); unfold endR at h9; rw [if_pos hok] at h9; exact ⟨(Prod.mk.inj h9).1.symm, (Prod.mk.inj h9).2.symm⟩
          clear hh hok
          go_wp2_with (first | (go_at_call 38; (with_reducible refine (HVI.out _).mono ?_); rintro e w5 ⟨rfl, hb5⟩; have HB5 := Lib.hid (HB9.out.trans (hb5.mono HB9.out.size)); have HJ5 := Lib.hid (HJ9.out.below hb5); clear hb5; have p0 := HJ5.out.c0; have p1 := HJ5.out.c1; have p2 := HJ5.out.c2; have p3 := HJ5.out.c3; have p4 := HJ5.out.c4) | (go_at_call 39; (with_reducible refine (HWd.out _).mono ?_); rintro e w6 ⟨rfl, hb6⟩; have HB6 := Lib.hid (HB5.out.trans (hb6.mono HB5.out.size)); clear hb6))
          go_ret2
          exact ⟨rfl, HB6.out⟩
        · have HVI : Hid (∀ W, Calls Tryz.prog 38 #[.agg #[.int .i64 4, .int .i64 0, .int .i64 0, .int .i64 0, .int .i64 tz]] W fun e w' => e = .returned (.int .i64 103) ∧ Below W.heap.size W w') := Lib.hid (fun W => vi_is 4 0 0 0 tz 103 (Lib.hid (codeI_no (by simpa using hok) (by decide))) W)
          obtain ⟨rfl, rfl⟩ : v = 0 ∧ t = 103 := by (have h9 : outV (endR (4, 0, 0, 0, tz)) = (v, t) := hh); unfold endR at h9; rw [if_neg hok] at h9; exact ⟨(Prod.mk.inj h9).1.symm, (Prod.mk.inj h9).2.symm⟩
          clear hh hok
          go_wp2_with (first | (go_at_call 38; (with_reducible refine (HVI.out _).mono ?_); rintro e w5 ⟨rfl, hb5⟩; have HB5 := Lib.hid (HB9.out.trans (hb5.mono HB9.out.size)); clear hb5))
          go_ret2
          exact ⟨rfl, HB5.out⟩
set_option maxRecDepth 100000 in
set_option maxHeartbeats 8000000 in
theorem aw_jz (s : ByteArray) (hs : s.size ≤ 900) (g c n : Nat) (HN : Hid ((tokB s).length = n)) (hn0 : 0 < n) (hn1 : n ≤ 1000) (an ap : Option Addr) (cn cp m : Nat) (NL : List (List UInt8 × Nat × Nat)) (hNL : Hid (NL.length = m)) (hm : m ≤ 1000) (w : World) (hW : RowG w g (wsV (tokB s))) (hN : RowC w an (NL.map nmV)) (hP : RowC w ap (NL.map plV)) (h0 : ((tokB s).getD 0 ⟨#[]⟩).data.toList = [106, 122]) (h2 : n = 3) (hnl : nameL ((tokB s).getD 2 ⟨#[]⟩).data.toList = true) (v t : Int) (h : Hid ((match opdO 114 ((tokB s).getD 1 ⟨#[]⟩).data.toList with | none => ((0 : Int), (112 : Int)) | some a => match fnd NL ((tokB s).getD 2 ⟨#[]⟩).data.toList with | some p => outV (endR (5, (a : Int), 0, 0, p.2)) | none => (0, 105)) = (v, t))) : Calls Tryz.prog 19 #[.slice (some ⟨g, 0, none⟩) n c, .string s, .slice an m cn, .slice ap m cp] w fun e w' => e = .returned (.tuple #[.int .u32 v, .int .i64 t]) ∧ Below w.heap.size w w' := by
  subst h2
  obtain ⟨x0, hx0⟩ : ∃ x0, (tokB s).getD 0 ⟨#[]⟩ = x0 := ⟨_, rfl⟩; have c0 := hW.word 0 (by rw [HN.out]; exact hn0); rw [hx0] at c0
  rw [hx0] at h0
  have e0 := eq_no (l := [119, 111, 114, 100]) (by rw [h0]; decide)
  have e4 := eq_no (l := [106, 109, 112]) (by rw [h0]; decide)
  have e5 := eq_yes h0
  have HN0 := Lib.hid hN
  have HP0 := Lib.hid hP
  have cl := hW.word 2 (by rw [HN.out]; decide)
  obtain ⟨y, hy⟩ : ∃ y, (tokB s).getD 2 ⟨#[]⟩ = y := ⟨_, rfl⟩
  have hyz : y.size ≤ 1000000 := by rw [← hy]; exact Nat.le_trans (tok_size s 2) (by omega)
  have hh := h.out
  rw [hy] at cl hnl hh
  have HNm : Hid (∀ W, Calls Tryz.prog 35 #[.string y] W fun e w' => e = .returned (.bool true) ∧ Below W.heap.size W w') := Lib.hid (fun W => rname_is y hyz true (Lib.hid hnl) W)
  have c1 := hW.word 1 (by rw [HN.out]; decide)
  obtain ⟨x1, hx1⟩ : ∃ x1, (tokB s).getD 1 ⟨#[]⟩ = x1 := ⟨_, rfl⟩
  have hxz : x1.size ≤ 1000000 := by rw [← hx1]; exact Nat.le_trans (tok_size s 1) (by omega)
  rw [hx1] at c1 hh
  have HGl := Lib.hid hW.1
  clear hW hN hP hx0 h0 hy hnl hx1
  go_enter Tryz.func19, Tryz.ntmps19
  go_upto_region 11 with (first | (go_at_call 35; (with_reducible refine (HNm.out _).mono ?_); rintro e w1 ⟨rfl, hb⟩; have HB1 := Lib.hid hb; have c0b := (hb.cell (p := ⟨g, 0, none⟩) HGl.out).trans c0; have c1b := (hb.cell (p := ⟨g, 1, none⟩) HGl.out).trans c1; clear hb))
  generalize hA : World.alloc w1 _ = w2
  obtain ⟨P, hP⟩ : ∃ P, P = w1.heap.size := ⟨_, rfl⟩
  have HBa : Hid (Below w1.heap.size w1 w2) := Lib.hid (by rw [← hA]; exact (Below.refl _ _).alloc (Nat.le_refl _) _)
  have HJ2 : Hid (I5 w2 P 4 0 0 0 0) := Lib.hid (by rw [← hA, hP]; exact I5.new _ _ _ _ _ _ _)
  have HB2 := Lib.hid (HB1.out.trans (HBa.out.mono HB1.out.size))
  have HPl : Hid (w.heap.size ≤ P) := Lib.hid (by rw [hP]; exact HB1.out.size)
  have HGl1 : Hid (g < w1.heap.size) := Lib.hid (Nat.lt_of_lt_of_le HGl.out HB1.out.size)
  have c0d := (HBa.out.cell (p := ⟨g, 0, none⟩) HGl1.out).trans c0b
  have c1d := (HBa.out.cell (p := ⟨g, 1, none⟩) HGl1.out).trans c1b
  rw [← hP]
  clear hP hA c0b c1b c0 c1 cl
  cases ha : opdO 114 x1.data.toList with
  | none =>
    rw [ha] at hh
    obtain ⟨rfl, rfl⟩ := Prod.mk.inj hh
    have HO : Hid (numO (opdO 114 x1.data.toList) = (0, false)) := Lib.hid (by rw [ha]; rfl)
    have HOp : Hid (∀ W, Calls Tryz.prog 37 #[.string x1, .int .u8 114] W fun e w' => e = .returned (.tuple #[.int .i64 0, .bool false]) ∧ Below W.heap.size W w') := Lib.hid (fun W => roperand_is x1 hxz 114 0 false HO W)
    clear hh ha
    go_wp2_with (first | (go_at_call 37; (with_reducible refine (HOp.out _).mono ?_); rintro e w3 ⟨rfl, hb⟩; have HB3 := Lib.hid (HB2.out.trans (hb.mono HB2.out.size)); clear hb))
    go_ret2
    exact ⟨rfl, HB3.out⟩
  | some av =>
    rw [ha] at hh
    have HO : Hid (numO (opdO 114 x1.data.toList) = ((av : Int), true)) := Lib.hid (by rw [ha]; rfl)
    have HOp : Hid (∀ W, Calls Tryz.prog 37 #[.string x1, .int .u8 114] W fun e w' => e = .returned (.tuple #[.int .i64 (av : Int), .bool true]) ∧ Below W.heap.size W w') := Lib.hid (fun W => roperand_is x1 hxz 114 (av : Int) true HO W)
    clear ha
    go_upto_region 15 with (first | (go_at_call 37; (with_reducible refine (HOp.out _).mono ?_); rintro e w3 ⟨rfl, hb⟩; have HB3 := Lib.hid (HB2.out.trans (hb.mono HB2.out.size)); have HJ3 := Lib.hid (HJ2.out.below hb); clear hb))
    have r0 := HJ3.out.c0
    have r1 := HJ3.out.c1
    have rf := HJ3.out.fz
    go_upto_region 16 with fail
    generalize hA : World.setCell w3 _ _ = w4
    have HJ4 : Hid (I5 w4 P 5 0 0 0 0) := Lib.hid (by rw [← hA]; exact HJ3.out.put.1 _)
    have HB4 : Hid (Below w.heap.size w w4) := Lib.hid (by rw [← hA]; exact HB3.out.setCell HPl.out _)
    clear r0 r1 rf hA
    have r0 := HJ4.out.c0
    have r1 := HJ4.out.c1
    have rf := HJ4.out.fz
    go_upto_region 17 with fail
    generalize hA : World.setCell w4 _ _ = wA
    have HJA : Hid (I5 wA P 5 (av : Int) 0 0 0) := Lib.hid (by rw [← hA]; exact HJ4.out.put.2.1 _)
    have HBA : Hid (Below w.heap.size w wA) := Lib.hid (by rw [← hA]; exact HB4.out.setCell HPl.out _)
    clear r0 r1 rf hA
    have HNr := Lib.hid (HN0.out.below HBA.out)
    have HPr := Lib.hid (HP0.out.below HBA.out)
    obtain ⟨nm, hnm⟩ : ∃ nm, y.data.toList = nm := ⟨_, rfl⟩
    have HYn := Lib.hid hnm
    rw [hnm] at hh
    clear hnm
    go_upto_region 19 with fail
    go_loopw [16, 17] (fun tz j wr => ∃ k : Nat, k ≤ m ∧ j = .int .i64 k ∧ tz = .int .i64 (toV (fnd (NL.take k) nm)) ∧ Below wA.heap.size wA wr) (fun _ j _ => m - (intOf j).toNat)
    case atStart => exact ⟨0, by omega, rfl, rfl, Below.refl _ _⟩
    case round =>
      obtain ⟨k, hk, rfl, rfl, hbr⟩ := hrel
      have HBr := Lib.hid hbr
      by_cases hlt : k < m
      · have hkN : k < NL.length := by rw [hNL.out]; exact hlt
        obtain ⟨gn, rfl, hgn, hcn⟩ := HNr.out k (nmV NL[k]) (by rw [List.getElem?_map, List.getElem?_eq_getElem hkN]; rfl)
        obtain ⟨gp, rfl, hgp, hcp⟩ := HPr.out k (plV NL[k]) (by rw [List.getElem?_map, List.getElem?_eq_getElem hkN]; rfl)
        have cn1 := (hbr.cell (p := ⟨gn, k, none⟩) hgn).trans hcn
        have cp1 := (hbr.cell (p := ⟨gp, k, none⟩) hgp).trans hcp
        have hst := to_step NL nm k hkN
        obtain ⟨z, hz⟩ : ∃ z : ByteArray, (⟨(NL[k]).1.toArray⟩ : ByteArray) = z := ⟨_, rfl⟩
        obtain ⟨pl, hpl⟩ : ∃ pl : Nat, (NL[k]).2.2 = pl := ⟨_, rfl⟩
        have hzz : (NL[k]).1 = nm ↔ z = y := ⟨fun e => by rw [← hz, e, ← HYn.out], fun e => by rw [← HYn.out, ← e, ← hz]⟩
        unfold nmV at cn1
        unfold plV at cp1
        rw [hz] at cn1
        rw [hpl] at cp1 hst
        obtain ⟨tv, htv⟩ : ∃ tv, toV (fnd (NL.take k) nm) = tv := ⟨_, rfl⟩
        rw [htv] at hst ⊢
        have HST := Lib.hid hst
        have HZZ := Lib.hid hzz
        have i1 : (k : Int) < (m : Int) := by omega
        have i2 : (0 : Int) ≤ (k : Int) := by omega
        clear hst hzz hz hpl htv hcn hcp hbr hgn hgp
        by_cases hzy : z = y
        · have he : (z.toList == y.toList) = true := by rw [ba_leq]; exact decide_eq_true hzy
          by_cases htl : tv < 0
          · have HS : Hid (toV (fnd (NL.take (k + 1)) nm) = (pl : Int)) := Lib.hid (by rw [HST.out, if_pos ⟨HZZ.out.2 hzy, htl⟩])
            have ht9 : decide (tv < 0) = true := decide_eq_true htl
            clear htl hzy
            go_wp2_with fail
            go_roundw
            case rel => exact ⟨k + 1, by omega, by go_num, by rw [HS.out], HBr.out⟩
            case measure => simp [intOf]; omega
          · have HS : Hid (toV (fnd (NL.take (k + 1)) nm) = tv) := Lib.hid (by rw [HST.out, if_neg (fun e => htl e.2)])
            have ht9 : decide (tv < 0) = false := decide_eq_false htl
            clear htl hzy
            go_wp2_with fail
            go_roundw
            case rel => exact ⟨k + 1, by omega, by go_num, by rw [HS.out], HBr.out⟩
            case measure => simp [intOf]; omega
        · have he : (z.toList == y.toList) = false := by rw [ba_leq]; exact decide_eq_false hzy
          have HS : Hid (toV (fnd (NL.take (k + 1)) nm) = tv) := Lib.hid (by rw [HST.out, if_neg (fun e => hzy (HZZ.out.1 e.1))])
          clear hzy
          go_wp2_with fail
          go_roundw
          case rel => exact ⟨k + 1, by omega, by go_num, by rw [HS.out], HBr.out⟩
          case measure => simp [intOf]; omega
      · obtain rfl : k = m := by omega
        rw [List.take_of_length_le (by rw [hNL.out]; exact Nat.le_refl _)]
        have HJr := Lib.hid (HJA.out.below hbr)
        have HBw := Lib.hid (HBA.out.trans (hbr.mono HBA.out.size))
        have hdd : decide (k < k) = false := by simp
        clear hbr hlt
        cases hq : fnd NL nm with
        | none =>
          rw [hq] at hh
          obtain ⟨rfl, rfl⟩ := Prod.mk.inj hh
          rw [show toV none = -1 from rfl]
          clear hh hq
          go_wp2_with fail
          go_ret2
          exact ⟨rfl, HBw.out⟩
        | some p =>
          rw [hq] at hh
          simp only at hh
          have hp0 : 0 ≤ p.2 := by unfold fnd at hq; cases hf : NL.find? (fun t => decide (t.1 = nm)) with | none => (rw [hf] at hq; cases hq) | some t9 => (rw [hf] at hq; injection hq with hq; rw [← hq]; simp)
          rw [show toV (some p) = p.2 from rfl]
          obtain ⟨tz, hto⟩ : ∃ tz, p.2 = tz := ⟨_, rfl⟩
          rw [hto] at hh hp0 ⊢
          have ht9 : decide (tz < 0) = false := decide_eq_false (by omega)
          clear hq hto hp0
          have r0 := HJr.out.c0
          have r1 := HJr.out.c1
          have r2 := HJr.out.c2
          have r3 := HJr.out.c3
          have r4 := HJr.out.c4
          have rf := HJr.out.fz
          go_upto_region 26 with fail
          generalize hA : World.setCell wr _ _ = wC
          have HJ9 : Hid (I5 wC P 5 (av : Int) 0 0 tz) := Lib.hid (by rw [← hA]; exact HJr.out.put.2.2.2.2 _)
          have HB9 : Hid (Below w.heap.size w wC) := Lib.hid (by rw [← hA]; exact HBw.out.setCell HPl.out _)
          clear r0 r1 r2 r3 r4 rf hA
          have r0 := HJ9.out.c0
          have r1 := HJ9.out.c1
          have r2 := HJ9.out.c2
          have r3 := HJ9.out.c3
          have r4 := HJ9.out.c4
          by_cases hok : okB 5 (av : Int) 0 0 tz = true
          · have HVI : Hid (∀ W, Calls Tryz.prog 38 #[.agg #[.int .i64 5, .int .i64 (av : Int), .int .i64 0, .int .i64 0, .int .i64 tz]] W fun e w' => e = .returned (.int .i64 0) ∧ Below W.heap.size W w') := Lib.hid (fun W => vi_is 5 (av : Int) 0 0 tz 0 (Lib.hid (codeI_ok hok)) W)
            have HWd : Hid (∀ W, Calls Tryz.prog 39 #[.agg #[.int .i64 5, .int .i64 (av : Int), .int .i64 0, .int .i64 0, .int .i64 tz]] W fun e w' => e = .returned (.int .u32 (wordC 5 (av : Int) 0 0 tz)) ∧ Below W.heap.size W w') := Lib.hid (fun W => rwordof_is 5 (av : Int) 0 0 tz W (Lib.hid hok) _ (Lib.hid rfl))
            obtain ⟨rfl, rfl⟩ : v = wordC 5 (av : Int) 0 0 tz ∧ t = 0 := by (have h9 : outV (endR (5, (av : Int), 0, 0, tz)) = (v, t) := hh); unfold endR at h9; rw [if_pos hok] at h9; exact ⟨(Prod.mk.inj h9).1.symm, (Prod.mk.inj h9).2.symm⟩
            clear hh hok
            go_wp2_with (first | (go_at_call 38; (with_reducible refine (HVI.out _).mono ?_); rintro e w5 ⟨rfl, hb5⟩; have HB5 := Lib.hid (HB9.out.trans (hb5.mono HB9.out.size)); have HJ5 := Lib.hid (HJ9.out.below hb5); clear hb5; have p0 := HJ5.out.c0; have p1 := HJ5.out.c1; have p2 := HJ5.out.c2; have p3 := HJ5.out.c3; have p4 := HJ5.out.c4) | (go_at_call 39; (with_reducible refine (HWd.out _).mono ?_); rintro e w6 ⟨rfl, hb6⟩; have HB6 := Lib.hid (HB5.out.trans (hb6.mono HB5.out.size)); clear hb6))
            go_ret2
            exact ⟨rfl, HB6.out⟩
          · have HVI : Hid (∀ W, Calls Tryz.prog 38 #[.agg #[.int .i64 5, .int .i64 (av : Int), .int .i64 0, .int .i64 0, .int .i64 tz]] W fun e w' => e = .returned (.int .i64 103) ∧ Below W.heap.size W w') := Lib.hid (fun W => vi_is 5 (av : Int) 0 0 tz 103 (Lib.hid (codeI_no (by simpa using hok) (by decide))) W)
            obtain ⟨rfl, rfl⟩ : v = 0 ∧ t = 103 := by (have h9 : outV (endR (5, (av : Int), 0, 0, tz)) = (v, t) := hh); unfold endR at h9; rw [if_neg hok] at h9; exact ⟨(Prod.mk.inj h9).1.symm, (Prod.mk.inj h9).2.symm⟩
            clear hh hok
            go_wp2_with (first | (go_at_call 38; (with_reducible refine (HVI.out _).mono ?_); rintro e w5 ⟨rfl, hb5⟩; have HB5 := Lib.hid (HB9.out.trans (hb5.mono HB9.out.size)); clear hb5))
            go_ret2
            exact ⟨rfl, HB5.out⟩
/-- What a line's word comes to for the document: a number, and which error. -/
def outA (x : (Int × Bool) × Option Nat) : Int × Int := match x with
  | ((v, _), none) => (v, 0)
  | (_, some e) => (0, codW (some e))
theorem outA_W (X : (Int × Int × Int × Int × Int) × Option Nat) (h : CodeO X.2) : outA (outW X) = outV X := by
  obtain ⟨⟨a0, a1, a2, a3, a4⟩, o⟩ := X
  cases o with
  | none => rfl
  | some e =>
    show (0, codW (some e)) = (0, codR (some e))
    rw [codW_R _ h]
theorem rasmword_is (s : ByteArray) (hs : s.size ≤ 900) (g c n : Nat) (HN : Hid ((tokB s).length = n)) (hn0 : 0 < n) (hn1 : n ≤ 1000) (an ap : Option Addr) (cn cp m : Nat) (NL : List (List UInt8 × Nat × Nat)) (hNL : Hid (NL.length = m)) (hm : m ≤ 1000) (w : World) (hW : RowG w g (wsV (tokB s))) (hN : RowC w an (NL.map nmV)) (hP : RowC w ap (NL.map plV)) (F : LF) (hF : Hid (∀ x, F x = fnd NL x)) (line : Nat) (hs1 : Hid (silentL (tokB s) = false)) (hs2 : Hid (nmIn (tokB s) = none)) (v t : Int) (h : Hid (outA (wdV F line (tokB s)) = (v, t))) : Calls Tryz.prog 19 #[.slice (some ⟨g, 0, none⟩) n c, .string s, .slice an m cn, .slice ap m cp] w fun e w' => e = .returned (.tuple #[.int .u32 v, .int .i64 t]) ∧ Below w.heap.size w w' := by
  have hl : 0 < (tokB s).length := by rw [HN.out]; exact hn0
  have hh := h.out
  by_cases h0 : ((tokB s).getD 0 ⟨#[]⟩).data.toList = [119, 111, 114, 100]
  · by_cases h2 : n = 2
    · rw [wd_num F line _ hs1.out hs2.out h0 (by rw [HN.out]; exact h2)] at hh
      refine aw_num s hs g c n HN hn0 hn1 an ap cn cp m NL hNL hm w hW hN hP h0 h2 v t (Lib.hid ?_)
      rw [← hh]
      unfold decS2
      cases numL ((tokB s).getD 1 ⟨#[]⟩).data.toList <;> rfl
    · rw [wd_rest F line _ hs1.out hs2.out (fun e => h2 (by rw [← HN.out]; exact e.2)), par_word F _ hl h0] at hh
      obtain ⟨rfl, rfl⟩ := Prod.mk.inj hh
      exact aw_cnt s hs g c n HN hn0 hn1 an ap cn cp m NL hNL hm w hW hN hP h0 h2
  · rw [wd_rest F line _ hs1.out hs2.out (fun e => h0 e.1)] at hh
    by_cases hJ : JmpN (tokB s)
    · rcases hJ with ⟨h3, h4, h5⟩ | ⟨h3, h4, h5⟩
      · rw [par_jmp F _ h3 h4 h5, hF.out] at hh
        refine aw_jmp s hs g c n HN hn0 hn1 an ap cn cp m NL hNL hm w hW hN hP h3 (by rw [← HN.out]; exact h4) h5 v t (Lib.hid ?_)
        rw [← hh]
        cases fnd NL ((tokB s).getD 1 ⟨#[]⟩).data.toList with
        | none => rfl
        | some p => exact (outA_W _ (codeO_end _)).symm
      · rw [par_jz F _ h3 h4 h5, hF.out] at hh
        refine aw_jz s hs g c n HN hn0 hn1 an ap cn cp m NL hNL hm w hW hN hP h3 (by rw [← HN.out]; exact h4) h5 v t (Lib.hid ?_)
        rw [← hh]
        cases opdO 114 ((tokB s).getD 1 ⟨#[]⟩).data.toList with
        | none => rfl
        | some a =>
          cases fnd NL ((tokB s).getD 2 ⟨#[]⟩).data.toList with
          | none => rfl
          | some p => exact (outA_W _ (codeO_end _)).symm
    · rw [par_line F s hl hJ, outA_W _ (line_code s)] at hh
      exact aw_line s hs g c n HN hn0 hn1 an ap cn cp m NL hNL hm w hW hN hP h0 hJ v t (Lib.hid hh)
end Go.Proofs.YtaekccgcnlepaaaGreatDoor
namespace Go.Proofs.YtaekccgcnlepaaaGreatDoor
open Go.Joins Go.ChangeShapes Go.WideShapes Go.ChangeAt Go.RowKit Go.Deep
set_option linter.unusedVariables false
/-- A slice of structs of integers that came in: nil, or 'cap' rows, the first 'len' its elements. -/
def IsRows (ks : List IntKind) (w : World) (a : Option Addr) (len cap : Nat) (zs : List (List Int)) : Prop :=
  (a = none ∧ len = 0 ∧ cap = 0 ∧ zs = []) ∨
  ∃ x, a = some x ∧ len ≤ cap ∧ cap ≤ maxLen ∧ zs.length = cap ∧ ∀ i, i < zs.length → ∀ j k, ks[j]? = some k → w.cell? (x.add (i * ks.length + j)) = some (.int k ((zs.getD i []).getD j 0)) ∧ (Lit.int k ((zs.getD i []).getD j 0)).wf = true
section
variable {H : Type} {enc : TypeId × Value → H} {P : Program} {w : World} {base : Nat} {held : Bool}
theorem open_rows {t e : TypeId} {fs : Array Field} {fuel : Nat} {a : Option Addr} {len cap : Nat} {x : DataW H × List MemPlace} {ks : List IntKind} (ht : P.underlying t = some (.slice e)) (he : P.underlying e = some (.struct fs))
    (hone : oneCellFields P fs = true) (hC : P.cellsOf e = ks.length) (hfk : fs.size = ks.length) (hk : ∀ (j : Nat) (f : Field), fs[j]? = some f → ∃ k, ks[j]? = some k ∧ P.underlying f.type = some (.int k))
    (h : DataW.trod enc P w base (fun _ => true) held fuel t (Value.slice a len cap).cells.toList = some x) : ∃ zs, IsRows ks w a len cap zs := by
  rcases open_slice ht h with h0 | ⟨y, l, c, m, n, D, Pl, hcs, hb, hl, hm, hmm, hx, hi⟩
  · simp [Value.cells] at h0
    obtain ⟨⟨rfl, rfl, rfl⟩, _⟩ := h0
    exact ⟨[], .inl ⟨rfl, rfl, rfl, rfl⟩⟩
  · simp [Value.cells] at hcs
    obtain ⟨rfl, rfl, rfl⟩ := hcs
    have hmc : m = cap := by simpa using hmm
    have key : ∀ i, i < m → ∃ z : List Int, ∀ j k, ks[j]? = some k → w.cell? (y.add (i * ks.length + j)) = some (.int k (z.getD j 0)) ∧ (Lit.int k (z.getD j 0)).wf = true := by
      intro i him
      obtain ⟨cs', hc, ht'⟩ := hi i him
      rw [hC] at hc
      obtain ⟨ys, n', hn', hy, hlen, hyl, hf⟩ := DataW.trod_struct he ht'
      obtain ⟨_, hcl, hat⟩ := World.cells?_some hc
      have one : ∀ j, j < ks.length → ∃ v : Int, ∀ k, ks[j]? = some k → w.cell? (y.add (i * ks.length + j)) = some (.int k v) ∧ (Lit.int k v).wf = true := by
        intro j hj
        have hjl : j < fs.size := by omega
        have hjf : fs[j]? = some fs[j] := Array.getElem?_eq_getElem hjl
        obtain ⟨k, hks, hu⟩ := hk j _ hjf
        obtain ⟨ho, hkk⟩ := hone_of hone j _ hjf
        have hcell := hat j hj
        have hv : cs'[j]? = some (cs'[j]'(by omega)) := List.getElem?_eq_getElem (by omega)
        have h1 := hf j _ hjf
        rw [ho, hkk] at h1
        have hone' : (cs'.drop j).take 1 = [cs'[j]'(by omega)] := by
          rw [List.drop_eq_getElem_cons (by omega)]
          rfl
        rw [hone'] at h1
        have hys : ys[j]? = some (ys[j]'(by omega)) := List.getElem?_eq_getElem (by omega)
        obtain ⟨v, e1, _, hw⟩ := DataW.trod_int hu (h1.trans hys)
        simp at e1
        refine ⟨v, fun k' hk' => ?_⟩
        obtain rfl := Option.some.inj (hks.symm.trans hk')
        refine ⟨?_, hw⟩
        rw [← Go.Deep.add_add, hcell, hv, e1]
      have pick : ∀ n, n ≤ ks.length → ∃ z : List Int, z.length = n ∧ ∀ j, j < n → ∀ k, ks[j]? = some k → w.cell? (y.add (i * ks.length + j)) = some (.int k (z.getD j 0)) ∧ (Lit.int k (z.getD j 0)).wf = true := by
        intro n
        induction n with
        | zero => intro _; exact ⟨[], rfl, fun j hj => by omega⟩
        | succ n ih =>
          intro hn
          obtain ⟨z, hz, hzz⟩ := ih (by omega)
          obtain ⟨v, hv⟩ := one n (by omega)
          refine ⟨z ++ [v], by simp [hz], fun j hj k hk' => ?_⟩
          by_cases hjn : j < n
          · have e : (z ++ [v]).getD j 0 = z.getD j 0 := by simp [List.getD, List.getElem?_append, hz, hjn]
            rw [e]; exact hzz j hjn k hk'
          · obtain rfl : j = n := by omega
            have e : (z ++ [v]).getD j 0 = v := by simp [List.getD, ← hz]
            rw [e]; exact hv k hk'
      obtain ⟨z, hz, hzz⟩ := pick ks.length (Nat.le_refl _)
      exact ⟨z, fun j k hjk => hzz j ((List.getElem?_eq_some_iff.1 hjk).1) k hjk⟩
    have all : ∀ n, n ≤ m → ∃ zs : List (List Int), zs.length = n ∧ ∀ i, i < n → ∀ j k, ks[j]? = some k → w.cell? (y.add (i * ks.length + j)) = some (.int k ((zs.getD i []).getD j 0)) ∧ (Lit.int k ((zs.getD i []).getD j 0)).wf = true := by
      intro n
      induction n with
      | zero => intro _; exact ⟨[], rfl, fun i hi => by omega⟩
      | succ n ih =>
        intro hn
        obtain ⟨zs, hz, hzz⟩ := ih (by omega)
        obtain ⟨z, hv⟩ := key n (by omega)
        refine ⟨zs ++ [z], by simp [hz], fun i hi j k hk' => ?_⟩
        by_cases hin : i < n
        · have e : (zs ++ [z]).getD i [] = zs.getD i [] := by simp [List.getD, List.getElem?_append, hz, hin]
          rw [e]; exact hzz i hin j k hk'
        · obtain rfl : i = n := by omega
          have e : (zs ++ [z]).getD i [] = z := by simp [List.getD, ← hz]
          rw [e]; exact hv j k hk'
    obtain ⟨zs, hz, hzz⟩ := all m (Nat.le_refl _)
    exact ⟨zs, .inr ⟨_, rfl, hl, hm, by omega, fun i hi => hzz i (by omega)⟩⟩
end

section
variable {P : Program}
/-- copy where an element has s cells: dst's block known whole. -/
theorem run_copy_wide (w : World) (dT sT ty elem : TypeId) (s g o dLen dCap : Nat) (a : Addr) (sLen sCap : Nat) (cur : Array Value) (t : TypeId) (cs : List Value)
    (hu : P.underlying dT = some (.slice elem)) (hs : (P.info? elem).map (·.size) = some s)
    (hg : w.heap[g]? = some (.cells cur t (0, 0))) (hn : cs.length = Nat.min sLen dLen * s)
    (hsrc : ∀ j v, cs[j]? = some v → w.cell? (a.add j) = some v) (hfit : o + cs.length ≤ cur.size) (h1 : ∀ v ∈ cs, v.oneCell' = true) :
    (Builtin.copy_ #[dT, sT] ty #[.slice (some ⟨g, o, none⟩) dLen dCap, .slice (some a) sLen sCap]).run P w =
      .ok (goInt (Nat.min sLen dLen)) (w.setRow g (cur.toList.take o ++ cs ++ cur.toList.drop (o + cs.length)).toArray) := by
  have hl := run_loadCells_list (P := P) w a cs hsrc
  have hst := run_storeCells_at P g o t cs 0 cur w hg (by simpa using hfit) h1
  cases hq : P.info? elem with
  | none => simp [hq] at hs
  | some i =>
    have hi : i.size = s := by simpa [hq] using hs
    rw [hn] at hl
    simp [Builtin.copy_, run_underlying hu, Builtin.lenOf, Builtin.firstCells, sizeOf, typeInfo, hq, hi, hl, hst]
theorem run_copy_wide_none (w : World) (dT sT ty elem : TypeId) (s : Nat) (d a : Option Addr) (dLen dCap sLen sCap : Nat) (hu : P.underlying dT = some (.slice elem)) (hs : (P.info? elem).map (·.size) = some s) (hn : Nat.min sLen dLen = 0) :
    (Builtin.copy_ #[dT, sT] ty #[.slice d dLen dCap, .slice a sLen sCap]).run P w = .ok (goInt 0) w := by
  cases hq : P.info? elem with
  | none => simp [hq] at hs
  | some i =>
    have hl : ∀ (x : Addr), (loadCells x 0).run P w = .ok #[] w := fun x => by simpa using run_loadCells_list (P := P) w x [] (by simp)
    cases d <;> cases a <;> simp [Builtin.copy_, run_underlying hu, Builtin.lenOf, Builtin.firstCells, sizeOf, typeInfo, hq, hn, storeCells, hl]
theorem wpList_copy_wide {w : World} {ops : Array Oper} {rest : List Oper} {o : Oper} {a : Act} {Q : Exit → Act → World → Prop} (hgd : o.guard = none) (d s : Operand) (dT sT : TypeId)
    (ho : o.op = .call { callee := .builtin .copy, args := #[d, s], argTypes := #[dT, sT] }) (elem : TypeId) (sz : Nat) (hu : P.underlying dT = some (.slice elem)) (hsz : (P.info? elem).map (·.size) = some sz)
    (sp : Option Addr) (g off dLen dCap sLen sCap : Nat) (hd : a.eval d = .slice (some ⟨g, off, none⟩) dLen dCap) (hs : a.eval s = .slice sp sLen sCap)
    (cur : List Value) (t : TypeId) (hg : w.heap[g]? = some (.cells cur.toArray t (0, 0))) (cs : List Value) (n : Nat) (hmin : Nat.min sLen dLen = n) (hn : cs.length = n * sz)
    (hpos : 0 < n → ∃ ad, sp = some ad ∧ ∀ j v, cs[j]? = some v → w.cell? (ad.add j) = some v)
    (hfit : off + cs.length ≤ cur.length) (h1 : ∀ v ∈ cs, v.oneCell' = true) (B : Nat) (w0 : World) (hb : Below B w0 w) (hBg : B ≤ g)
    (h : ∀ w', Hid (w'.heap[g]? = some (.cells (splice cur off cs).toArray t (0, 0))) → Below B w0 w' → w'.heap.size = w.heap.size → wpList P ops Q rest (a.put o.dst (goInt n)) w') :
    wpList P ops Q (o :: rest) a w := by
  refine wpList_plain hgd fun K hK => ?_
  by_cases h0 : n = 0
  · subst h0
    obtain rfl : cs = [] := List.eq_nil_of_length_eq_zero (by simpa using hn)
    have hrun := run_copy_wide_none (P := P) w dT sT o.type elem sz (some ⟨g, off, none⟩) sp dLen dCap sLen sCap hu hsz hmin
    unfold Oper.wp
    simp [execOp, ho, resolve, invoke, builtin, hd, hs, hrun, Result.andThen]
    exact hK _ _ (h w (show _ = _ by simpa [splice] using hg) hb rfl)
  · obtain ⟨ad, rfl, hsrc⟩ := hpos (by omega)
    have hrun := run_copy_wide (P := P) w dT sT o.type elem sz g off dLen dCap ad sLen sCap cur.toArray t cs hu hsz hg (by rw [hmin]; exact hn) hsrc (by simpa using hfit) h1
    rw [hmin] at hrun
    unfold Oper.wp
    simp [execOp, ho, resolve, invoke, builtin, hd, hs, hrun, Result.andThen]
    exact hK _ _ (h _ (show _ = _ by simpa [splice] using setRow_heap w g _ _ t _ hg) (below_setRow hb hBg _) (by simp [World.setRow]))
end
end Go.Proofs.YtaekccgcnlepaaaGreatDoor
namespace Go.Proofs.YtaekccgcnlepaaaGreatDoor
open Go.Joins Go.ChangeShapes Go.WideShapes Go.ChangeAt Go.RowKit Go.Deep
set_option linter.unusedVariables false
/-- These cells are read as a value of this type. -/
def Reads (P : Program) (w : World) (t : TypeId) (cs : List Value) : Prop := ∃ (H : Type) (enc : TypeId × Value → H) (base fuel : Nat) (held : Bool) (x : DataW H × List MemPlace), DataW.trod enc P w base (fun _ => true) held fuel t cs = some x
section
variable {P : Program} {w : World} {t e : TypeId} {cs : List Value}
theorem Reads.of {H : Type} {enc : TypeId × Value → H} {base : Nat} {held : Bool} {v : Value} {d : DataW H} {p : List MemPlace} (h : DataW.Trod enc P w base (fun _ => true) held t v d p) : Reads P w t v.cells.toList := by
  obtain ⟨fuel, hf⟩ := h
  exact ⟨H, enc, base, fuel, held, _, hf⟩
theorem Reads.int {k : IntKind} (ht : P.underlying t = some (.int k)) (h : Reads P w t cs) : ∃ n : Int, cs = [.int k n] ∧ (Lit.int k n).wf = true := by
  obtain ⟨H, enc, base, fuel, held, x, hf⟩ := h
  obtain ⟨n, e1, _, e2⟩ := DataW.trod_int ht hf
  exact ⟨n, e1, e2⟩
theorem Reads.bool (ht : P.underlying t = some .bool) (h : Reads P w t cs) : ∃ b : Bool, cs = [.bool b] := by
  obtain ⟨H, enc, base, fuel, held, x, hf⟩ := h
  obtain ⟨b, e1, _⟩ := DataW.trod_bool ht hf
  exact ⟨b, e1⟩
theorem Reads.string (ht : P.underlying t = some .string) (h : Reads P w t cs) : ∃ s : ByteArray, cs = [.string s] ∧ s.size ≤ maxLen := by
  obtain ⟨H, enc, base, fuel, held, x, hf⟩ := h
  obtain ⟨s, e1, _, e2⟩ := DataW.trod_string ht hf
  exact ⟨s, e1, e2⟩
theorem Reads.struct {fs : Array Field} (ht : P.underlying t = some (.struct fs)) (h : Reads P w t cs) : cs.length = P.cellsOf t ∧ ∀ (i : Nat) (f : Field), fs[i]? = some f → Reads P w f.type ((cs.drop f.offset).take (P.cellsOf f.type)) := by
  obtain ⟨H, enc, base, fuel, held, x, hf⟩ := h
  obtain ⟨xs, n, _, _, hl, hxl, hg⟩ := DataW.trod_struct ht hf
  refine ⟨hl, fun i f hi => ?_⟩
  have hlt : i < xs.length := by
    have := (Array.getElem?_eq_some_iff.1 hi).1
    omega
  exact ⟨H, enc, base, n, held, _, (hg i f hi).trans (List.getElem?_eq_getElem hlt)⟩
theorem Reads.array {n : Nat} (ht : P.underlying t = some (.array n e)) (h : Reads P w t cs) : ∀ i, i < n → Reads P w e ((cs.drop (i * P.cellsOf e)).take (P.cellsOf e)) := by
  obtain ⟨H, enc, base, fuel, held, x, hf⟩ := h
  obtain ⟨xs, m, _, _, _, hxl, hg⟩ := DataW.trod_array ht hf
  intro i hi
  exact ⟨H, enc, base, m, held, _, (hg i hi).trans (List.getElem?_eq_getElem (by omega))⟩
/-- A slice: nil, or each of its elements is read. -/
theorem Reads.slice {a : Option Addr} {len cap : Nat} (ht : P.underlying t = some (.slice e)) (h : Reads P w t [.slice a len cap]) :
    (a = none ∧ len = 0 ∧ cap = 0) ∨ ∃ x, a = some x ∧ len ≤ cap ∧ cap ≤ maxLen ∧ ∀ i, i < cap → ∃ cs', cs'.length = P.cellsOf e ∧ (∀ j v, cs'[j]? = some v → w.cell? (x.add (i * P.cellsOf e + j)) = some v) ∧ Reads P w e cs' := by
  obtain ⟨H, enc, base, fuel, held, x, hf⟩ := h
  rcases open_slice ht hf with ⟨h0, _⟩ | ⟨y, l, c, m, n, D, Pl, hcs, hb, hl, hm, hmm, hx, hi⟩
  · simp at h0
    exact .inl h0
  · simp at hcs
    obtain ⟨rfl, rfl, rfl⟩ := hcs
    have hmc : m = cap := by simpa using hmm
    refine .inr ⟨_, rfl, hl, hm, fun i hic => ?_⟩
    obtain ⟨cs', hc, ht'⟩ := hi i (by omega)
    obtain ⟨_, hcl, hat⟩ := World.cells?_some hc
    refine ⟨cs', hcl, fun j v hj => ?_, H, enc, base, n, held, _, ht'⟩
    have hjl : j < cs'.length := (List.getElem?_eq_some_iff.1 hj).1
    rw [← Go.Deep.add_add, hat j (by omega), hj]
theorem Reads.slice' {v : Value} (ht : P.underlying t = some (.slice e)) (h : Reads P w t [v]) : ∃ a len cap, v = .slice a len cap := by
  obtain ⟨H, enc, base, fuel, held, x, hf⟩ := h
  rcases open_slice ht hf with ⟨h0, _⟩ | ⟨y, l, c, m, n, D, Pl, hcs, hb, hl, hm, hmm, hx, hi⟩
  · simp at h0; exact ⟨_, _, _, h0⟩
  · simp at hcs; exact ⟨_, _, _, hcs⟩
theorem Reads.ints {k : IntKind} {a : Option Addr} {len cap : Nat} (ht : P.underlying t = some (.slice e)) (he : P.underlying e = some (.int k)) (hc : P.cellsOf e = 1) (h : Reads P w t [.slice a len cap]) : ∃ zs, IsRow k w a len cap zs := by
  obtain ⟨H, enc, base, fuel, held, x, hf⟩ := h
  rcases open_ints ht he hc hf with ⟨hcs, _⟩ | ⟨x, l, c, zs, hcs, _, hl, hm, hz, _, hcell, hwz⟩
  · simp at hcs
    obtain ⟨rfl, rfl, rfl⟩ := hcs
    exact ⟨[], .inl ⟨rfl, rfl, rfl, rfl⟩⟩
  · simp at hcs
    obtain ⟨rfl, rfl, rfl⟩ := hcs
    exact ⟨zs, .inr ⟨_, rfl, hl, hm, by simpa using hz, hcell, hwz⟩⟩
theorem Reads.rows {fs : Array Field} {a : Option Addr} {len cap : Nat} {ks : List IntKind} (ht : P.underlying t = some (.slice e)) (he : P.underlying e = some (.struct fs))
    (hone : oneCellFields P fs = true) (hC : P.cellsOf e = ks.length) (hfk : fs.size = ks.length) (hk : ∀ (j : Nat) (f : Field), fs[j]? = some f → ∃ k, ks[j]? = some k ∧ P.underlying f.type = some (.int k)) (h : Reads P w t [.slice a len cap]) : ∃ zs, IsRows ks w a len cap zs := by
  obtain ⟨H, enc, base, fuel, held, x, hf⟩ := h
  exact open_rows ht he hone hC hfk hk hf
/-- A field of one cell. -/
theorem Reads.cell {fs : Array Field} (ht : P.underlying t = some (.struct fs)) (h : Reads P w t cs) (i : Nat) (f : Field) (hf : fs[i]? = some f) (h1 : P.cellsOf f.type = 1) (ho : f.offset < P.cellsOf t) : ∃ v, cs[f.offset]? = some v ∧ Reads P w f.type [v] := by
  obtain ⟨hl, hg⟩ := h.struct ht
  have h2 := hg i f hf
  rw [h1] at h2
  have hlt : f.offset < cs.length := by omega
  refine ⟨cs[f.offset], List.getElem?_eq_getElem hlt, ?_⟩
  have e : (cs.drop f.offset).take 1 = [cs[f.offset]] := by
    rw [List.drop_eq_getElem_cons hlt]
    rfl
  rwa [e] at h2
end
end Go.Proofs.YtaekccgcnlepaaaGreatDoor
namespace Go.Proofs.YtaekccgcnlepaaaGreatDoor
open Go.ChangeShapes Go.WideShapes Go.ChangeAt Go.RowKit Go.Maps
set_option linter.unusedVariables false
set_option linter.unusedSimpArgs false
theorem gManners : Tryz.prog.globalNamed "turnkey/code.manners" = some 6 := by kernel_rfl
theorem tManners : (Tryz.prog.globals[6]?).map (·.type) = some 124 := by kernel_rfl
theorem cManners : Tryz.prog.cellsOf 124 = 3 := by kernel_rfl
theorem gPow10 : Tryz.prog.globalNamed "internal/strconv.uint64pow10" = some 16 := by kernel_rfl
theorem tPow10 : (Tryz.prog.globals[16]?).map (·.type) = some 129 := by kernel_rfl
theorem cPow10 : Tryz.prog.cellsOf 129 = 20 := by kernel_rfl
theorem cU64 : Tryz.prog.cellsOf 60 = 1 := by kernel_rfl
theorem tab_of {l : List (String × DataW Unit)} {w : World} (h : laidMet Tryz.prog l w) (hm : ("internal/strconv.uint64pow10", Lib.tabData .u64 Lib.pow10Tab) ∈ l) : Lib.TabIs Tryz.prog w "internal/strconv.uint64pow10" .u64 Lib.pow10Tab :=
  Lib.tabIs_of_head (rest := []) gPow10 tPow10 Tryz.underlying129 Tryz.underlying60 cU64 cPow10 (laid_mem h hm)
theorem tells_of {l : List (String × DataW Unit)} {w : World} (h : laidMet Tryz.prog l w) (hm : ("turnkey/code.manners", DataW.agg (mNm.map fun s => .lit (.string s))) ∈ l) (hw : ("turnkey/word.names", DataW.agg (wNm.map fun s => .lit (.string s))) ∈ l) (hp : ("internal/strconv.uint64pow10", Lib.tabData .u64 Lib.pow10Tab) ∈ l) : Tells w := by
  have h1 := texts_of_head (l := mNm) (rest := []) gManners tManners Tryz.underlying124 Tryz.underlying9 strCells cManners (laid_mem h hm)
  have h2 := texts_of_head (l := wNm) (rest := []) gWNm2 tWNm2 Tryz.underlying133 Tryz.underlying9 strCells cWNm2 (laid_mem h hw)
  exact ⟨tab_of h hp, in_heap (h2 0 (by decide)), h2, in_heap (h1 0 (by decide)), h1⟩
theorem show_sz (x : Int) (h0 : 0 ≤ x) (h1 : x ≤ 4294967295) : (showW x).size ≤ 900 := by
  unfold showW
  split
  · rename_i h
    have g := ok_bounds h
    simp only [okB, Bool.and_eq_true] at h
    obtain ⟨_, p1, p2, p3, p4⟩ := h
    have z : (nmC (x / 16777216).toNat).size ≤ 5 := nmC_size ⟨(x / 16777216).toNat, by omega⟩
    have s1 := tell_size _ _ p1
    have s2 := tell_size _ _ p2
    have s3 := tell_size _ _ p3
    have s4 := tell_size _ _ p4
    unfold textC
    split
    · rename_i h3
      rw [h3] at z s1 s2 s3 s4
      simp only [ByteArray.size_append]
      rw [show (3 : Int).toNat = 3 from rfl] at z s1 s2 s3 s4
      omega
    · simp only [ByteArray.size_append]
      omega
  · have := dec_size x.toNat (by omega)
    unfold decS at this
    rw [Int.toNat_natCast] at this
    have e : (wordS x.toNat).size = 5 + (⟨(Lib.decDigits x.toNat).toArray⟩ : ByteArray).size := by
      show (#[119, 111, 114, 100, 32] ++ (Lib.decDigits x.toNat).toArray).size = 5 + (Lib.decDigits x.toNat).toArray.size
      rw [Array.size_append]; rfl
    omega
theorem sen5_of {l : List (String × DataW Unit)} {w : World} (h : laidMet Tryz.prog l w) (hl : ∀ n ∈ ["turnkey/api.ErrMany", "turnkey/api.ErrNone", "turnkey/api.ErrWord", "turnkey/api.ErrNumber"], ∃ t, (n, DataW.iface "*errors.errorString" (.ptr (.agg [.lit (.string t)]))) ∈ l) : Sen5 (fun g => atErr w g) w := by
  have E := errs_are (gs := [0, 10, 4, 2]) h (by
    intro g hg
    simp only [List.mem_cons, List.not_mem_nil, or_false] at hg
    rcases hg with rfl | rfl | rfl | rfl
    · obtain ⟨t, ht⟩ := hl "turnkey/api.ErrMany" (by simp); exact ⟨_, t, ht, gErrMany, tErrMany⟩
    · obtain ⟨t, ht⟩ := hl "turnkey/api.ErrNone" (by simp); exact ⟨_, t, ht, gErrNone, tErrNone⟩
    · obtain ⟨t, ht⟩ := hl "turnkey/api.ErrWord" (by simp); exact ⟨_, t, ht, gErrWord, tErrWord⟩
    · obtain ⟨t, ht⟩ := hl "turnkey/api.ErrNumber" (by simp); exact ⟨_, t, ht, gErrNumber, tErrNumber⟩)
  obtain ⟨a1, a2, -⟩ := E.1 0 (by simp)
  obtain ⟨b1, b2, -⟩ := E.1 10 (by simp)
  obtain ⟨c1, c2, -⟩ := E.1 4 (by simp)
  obtain ⟨d1, d2, -⟩ := E.1 2 (by simp)
  exact ⟨a1, a2, b1, b2, c1, c2, d1, d2⟩
theorem row_ru {w : World} {a : Option Addr} {len cap : Nat} {zs : List Int} (h : IsRow .u32 w a len cap zs) : RU w a (zs.take len) ∧ (zs.take len).length = len ∧ ∀ i, i < len → 0 ≤ (zs.take len).getD i 0 ∧ (zs.take len).getD i 0 ≤ 4294967295 := by
  rcases h with ⟨rfl, rfl, rfl, rfl⟩ | ⟨x, rfl, h1, h2, h3, h4, h5⟩
  · exact ⟨fun j hj => by simp at hj, rfl, fun i hi => by omega⟩
  · have hg : ∀ i, i < len → (zs.take len).getD i 0 = zs.getD i 0 := fun i hi => by simp [List.getD, hi]
    refine ⟨fun j hj => ?_, by rw [List.length_take]; omega, fun i hi => ?_⟩
    · have hj2 : j < len := by rw [List.length_take] at hj; omega
      have hc := h4 j (by omega)
      refine ⟨x, rfl, ?_, by rw [hg j hj2]; exact hc⟩
      have hl : (x.add j).block < w.heap.size := by
        rcases Nat.lt_or_ge (x.add j).block w.heap.size with h' | h'
        · exact h'
        · simp [World.cell?, Array.getElem?_eq_none h'] at hc
      rw [add_blockL] at hl
      exact hl
    · rw [hg i hi]
      exact u32_fit (h5 _ (by simp [List.getD, show i < zs.length by omega]))
end Go.Proofs.YtaekccgcnlepaaaGreatDoor
namespace Go.Proofs.YtaekccgcnlepaaaGreatDoor
open Go.ChangeShapes Go.WideShapes Go.ChangeAt Go.RowKit Go.Maps
set_option linter.unusedVariables false
set_option linter.unusedSimpArgs false
/-- Three cells of a fault. -/
structure F3 (w : World) (b : Nat) : Prop where
  lt : b < w.heap.size
  c0 : w.cell? ⟨b, 0, none⟩ = some (.int .i64 0)
  c1 : w.cell? ⟨b, 1, none⟩ = some (.bool false)
  c2 : w.cell? ⟨b, 2, none⟩ = some (.int .i64 0)
  fz : ∀ j, w.frozen? ⟨b, j, none⟩ = false
theorem F3.below {w w' : World} {b : Nat} (h : F3 w b) (hb : Below w.heap.size w w') : F3 w' b :=
  ⟨Nat.lt_of_lt_of_le h.lt hb.size, (hb.cell (p := ⟨b, 0, none⟩) h.lt).trans h.c0, (hb.cell (p := ⟨b, 1, none⟩) h.lt).trans h.c1, (hb.cell (p := ⟨b, 2, none⟩) h.lt).trans h.c2, fun j => (hb.frozen (p := ⟨b, j, none⟩) h.lt).trans (h.fz j)⟩
theorem F3.new (w : World) (t : TypeId) : F3 (w.alloc (.cells #[.int .i64 0, .bool false, .int .i64 0] t)) w.heap.size := ⟨by simp, by simp, by simp, by simp, fun j => by simp⟩
theorem bel3 {w0 w : World} {B b : Nat} {v0 v1 v2 : Value} (h : Below B w0 w) (hb : B ≤ b) : Below B w0 (((w.setCell ⟨b, 0, none⟩ v0).setCell ⟨b, 1, none⟩ v1).setCell ⟨b, 2, none⟩ v2) := ((h.setCell hb _).setCell hb _).setCell hb _
theorem own_set3 {w : World} {B E s n b : Nat} {v : Value} {xs : List Value} {v0 v1 v2 : Value} (h : w.ownsRow B E s v n xs) (hb : b < B) : (((w.setCell ⟨b, 0, none⟩ v0).setCell ⟨b, 1, none⟩ v1).setCell ⟨b, 2, none⟩ v2).ownsRow B E s v n xs := by
  have one : ∀ {w : World} (i : Nat) (u : Value), w.ownsRow B E s v n xs → (w.setCell ⟨b, i, none⟩ u).ownsRow B E s v n xs := fun {w} i u h => by
    refine ⟨h.1, ?_⟩
    rcases h.2 with hn | ⟨g, cap, cur, hv, hB, hg, rest⟩
    · exact .inl hn
    · exact .inr ⟨g, cap, cur, hv, hB, (Below.heap_setCell _ _ _ _ (fun e => by simp at e; omega)).trans hg, rest⟩
  exact one _ _ (one _ _ (one _ _ h))
/-- The rows of names and places. -/
structure N2 (w : World) (b0 : Nat) (an ap : Option Addr) (cn cp nk : Nat) (l : List (List UInt8 × Nat × Nat)) : Prop where
  len : l.length = nk
  nr : w.ownsRow b0 9 1 (.slice an nk cn) nk (l.map nmV)
  pr : w.ownsRow b0 3 1 (.slice ap nk cp) nk (l.map plV)
  ne : (Value.slice ap nk cp).ownBlock = none ∨ (Value.slice ap nk cp).ownBlock ≠ (Value.slice an nk cn).ownBlock
theorem N2.below {w w' : World} {b0 cn cp nk : Nat} {an ap : Option Addr} {l : List (List UInt8 × Nat × Nat)} (h : N2 w b0 an ap cn cp nk l) (hb : Below w.heap.size w w') : N2 w' b0 an ap cn cp nk l := ⟨h.len, own_keep h.nr hb, own_keep h.pr hb, h.ne⟩
def fv0 (x : Option (Nat × Nat)) : Value := match x with | none => Value.agg #[.int .i64 0, .bool false, .int .i64 0] | some (k, e) => Value.agg #[.int .i64 (101 + (e : Int)), .bool true, .int .i64 (k : Int)]
/-- What the document's Asm answers. -/
def RxOut (w w' : World) (x : List Int × Option (Nat × Nat)) (e : Ending) : Prop :=
  ∃ ad n cp, e = .returned (.tuple #[.slice ad n cp, fv0 x.2]) ∧ x.1.length = n ∧ w'.ownsRow w.heap.size 38 1 (.slice ad n cp) n (x.1.map u32)
theorem rx_err {w w' : World} {x : List Int × Option (Nat × Nat)} {k er : Nat} {c : Int} (h : x = ([], some (k, er))) (hc : 101 + (er : Int) = c) : RxOut w w' x (.returned (.tuple #[.slice none 0 0, Value.agg #[.int .i64 c, .bool true, .int .i64 (k : Int)]])) := by
  subst h
  subst hc
  exact ⟨none, 0, 0, rfl, rfl, World.ownsRow_nil _ _ _ _⟩
theorem rx_ok {w w' : World} {x : List Int × Option (Nat × Nat)} {acc : List Int} {ad : Option Addr} {n cp : Nat} (h : x = (acc, none)) (hl : acc.length = n) (hr : w'.ownsRow w.heap.size 38 1 (.slice ad n cp) n (acc.map u32)) : RxOut w w' x (.returned (.tuple #[.slice ad n cp, Value.agg #[.int .i64 0, .bool false, .int .i64 0]])) := by
  subst h
  exact ⟨ad, n, cp, rfl, hl, hr⟩
theorem wd_true {F : LF} {line : Nat} {ws : List ByteArray} {v : Int} {t : Bool} (h1 : silentL ws = false) (h2 : nmIn ws = none) (h : wdV F line ws = ((v, t), none)) : t = true := by
  by_cases h3 : (ws.getD 0 ⟨#[]⟩).data.toList = [119, 111, 114, 100] ∧ ws.length = 2
  · rw [wd_num F line ws h1 h2 h3.1 h3.2] at h
    exact (congrArg (fun x => x.1.2) h).symm
  · rw [wd_rest F line ws h1 h2 h3] at h
    unfold outW at h
    split at h
    · cases h
    · exact (congrArg (fun x => x.1.2) h).symm
theorem wd_sil {F : LF} {line : Nat} {ws : List ByteArray} (h1 : silentL ws = true) : wdV F line ws = ((0, false), none) := by unfold wdV; rw [if_pos h1]
theorem wd_nm {F : LF} {line : Nat} {ws : List ByteArray} {nm : List UInt8} (h : nmIn ws = some nm) : wdV F line ws = if ((F nm).getD (0, 0)).1 = (line : Int) then ((0, false), none) else ((0, false), some 3) := by
  unfold wdV
  rw [if_neg (by rw [nm_loud h]; decide), h]
theorem nl_take (ls : List ByteArray) (k : Nat) (hk : k < ls.length) : nlF 0 0 (ls.take (k + 1)) = nlF 0 0 (ls.take k) ++ (match nmIn (tokB (ls.getD k ⟨#[]⟩)) with | some nm => [(nm, k, atF 0 (ls.take k))] | none => []) := by
  rw [List.take_succ_eq_append_getElem hk, nlF_append, List.length_take, Nat.min_eq_left (by omega), Nat.zero_add]
  congr 1
  have : ls.getD k ⟨#[]⟩ = ls[k] := by simp [List.getD, hk]
  rw [this, nlF]
  cases nmIn (tokB ls[k]) <;> rfl
theorem atF_append (l2 : List ByteArray) : ∀ (l1 : List ByteArray) (at' : Nat), atF at' (l1 ++ l2) = atF (atF at' l1) l2 := by
  intro l1
  induction l1 with
  | nil => intro at'; rfl
  | cons s r ih =>
    intro at'
    rw [List.cons_append, atF, atF]
    cases nmIn (tokB s) with
    | some m => exact ih _
    | none => exact ih _
theorem at_take (ls : List ByteArray) (k : Nat) (hk : k < ls.length) : atF 0 (ls.take (k + 1)) = match nmIn (tokB (ls.getD k ⟨#[]⟩)) with | some _ => atF 0 (ls.take k) | none => if silentL (tokB (ls.getD k ⟨#[]⟩)) = true then atF 0 (ls.take k) else atF 0 (ls.take k) + 1 := by
  rw [List.take_succ_eq_append_getElem hk, atF_append]
  have : ls.getD k ⟨#[]⟩ = ls[k] := by simp [List.getD, hk]
  rw [this, atF]
  cases nmIn (tokB ls[k]) <;> rfl
theorem nmr_ex (ws : List ByteArray) : ∃ nm t, NmR ws nm t := by
  cases h : nmIn ws with
  | none => exact ⟨⟨#[]⟩, false, .inr ⟨h, rfl, rfl⟩⟩
  | some l => exact ⟨⟨l.toArray⟩, true, .inl ⟨by rw [h], rfl⟩⟩
theorem infoStrN : (Tryz.prog.info? 9).map (fun i => (i.zero, i.size, i.bytes)) = some (some (.string ⟨#[]⟩), 1, 16) := by kernel_rfl
theorem infoIntN : (Tryz.prog.info? 3).map (fun i => (i.zero, i.size, i.bytes)) = some (some (.int .i64 0), 1, 8) := by kernel_rfl
theorem one_str (x : ByteArray) : ∀ u ∈ [Value.string x], u.oneCell' = true := by intro u hu; simp only [List.mem_singleton] at hu; subst hu; rfl
theorem one_int (x : Int) : ∀ u ∈ [Value.int .i64 x], u.oneCell' = true := by intro u hu; simp only [List.mem_singleton] at hu; subst hu; rfl
theorem one_u32 (x : Int) : ∀ u ∈ [Value.int .u32 x], u.oneCell' = true := by intro u hu; simp only [List.mem_singleton] at hu; subst hu; rfl
/-- A name more. -/
theorem N2.more {w w5 w6 : World} {b0 cn cp nk : Nat} {an ap : Option Addr} {l : List (List UInt8 × Nat × Nat)} {v2 v4 : Value} {x : List UInt8 × Nat × Nat} {o o2 : Obj} (h : N2 w b0 an ap cn cp nk l)
    (hr : w5.ownsRow b0 9 1 v2 (nk + 1) (l.map nmV ++ [nmV x])) (hg : (w.alloc o).grownBy w5 (Value.slice an nk cn).ownBlock) (hl : v2.ownBlock = (Value.slice an nk cn).ownBlock ∨ v2.ownBlock = some (w.alloc o).heap.size)
    (hr2 : w6.ownsRow b0 3 1 v4 (nk + 1) (l.map plV ++ [plV x])) (hg2 : (w5.alloc o2).grownBy w6 (Value.slice ap nk cp).ownBlock) (hl2 : v4.ownBlock = (Value.slice ap nk cp).ownBlock ∨ v4.ownBlock = some (w5.alloc o2).heap.size) :
    ∃ an' cn' ap' cp', v2 = .slice an' (nk + 1) cn' ∧ v4 = .slice ap' (nk + 1) cp' ∧ N2 w6 b0 an' ap' cn' cp' (nk + 1) (l ++ [x]) := by
  obtain ⟨an', cn', rfl⟩ := owns_shp hr
  obtain ⟨ap', cp', rfl⟩ := owns_shp hr2
  have hne : (Value.slice an' (nk + 1) cn').ownBlock = none ∨ (Value.slice an' (nk + 1) cn').ownBlock ≠ (Value.slice ap nk cp).ownBlock := by
    rcases hl with e | e
    · rcases h.ne with e2 | e2
      · rw [e2]
        cases hq : (Value.slice an' (nk + 1) cn').ownBlock with
        | none => exact .inl rfl
        | some k => exact .inr (by simp)
      · exact .inr (by rw [e]; exact Ne.symm e2)
    · refine .inr (fun e2 => ?_)
      rw [e] at e2
      have := (h.pr.lt _ e2.symm).2
      simp at this
      omega
  refine ⟨an', cn', ap', cp', rfl, rfl, by rw [List.length_append, h.len]; rfl, by rw [List.map_append]; exact (hr.alloc o2).kept hg2 hne, by rw [List.map_append]; exact hr2, ?_⟩
  rcases hl2 with e | e
  · rw [e]
    rcases hne with e2 | e2
    · rw [e2]
      cases hq : (Value.slice ap nk cp).ownBlock with
      | none => exact .inl rfl
      | some k => exact .inr (by simp)
    · exact .inr (Ne.symm e2)
  · refine .inr (fun e2 => ?_)
    rw [e] at e2
    have := (hr.lt _ e2.symm).2
    simp at this
    omega
set_option maxRecDepth 100000 in
set_option maxHeartbeats 16000000 in
theorem rtext_is (a : Option Addr) (c m : Nat) (ls : List ByteArray) (hm : Hid (ls.length = m)) (hm1 : m ≤ 900) (hsz : Hid (∀ i, (ls.getD i ⟨#[]⟩).size ≤ 900)) (w : World) (hL : LsAt w a ls) :
    Calls Tryz.prog 7 #[.slice a m c] w fun e w' => RxOut w w' (textV ls) e ∧ Below w.heap.size w w' := by
  have HL := Lib.hid hL
  obtain ⟨is0, hi, hz0, hz1, hz2⟩ := info_parts infoStrN
  have HIs := Lib.hid (⟨hi, hz0, hz1, hz2⟩ : Tryz.prog.info? 9 = some is0 ∧ is0.zero = some (.string ⟨#[]⟩) ∧ is0.size = 1 ∧ is0.bytes = 16)
  clear hi hz0 hz1 hz2
  obtain ⟨ii0, hi, hz0, hz1, hz2⟩ := info_parts infoIntN
  have HIi := Lib.hid (⟨hi, hz0, hz1, hz2⟩ : Tryz.prog.info? 3 = some ii0 ∧ ii0.zero = some (.int .i64 0) ∧ ii0.size = 1 ∧ ii0.bytes = 8)
  clear hi hz0 hz1 hz2
  obtain ⟨iu0, hi, hz0, hz1, hz2⟩ := info_parts infoU32
  have HIu := Lib.hid (⟨hi, hz0, hz1, hz2⟩ : Tryz.prog.info? 38 = some iu0 ∧ iu0.zero = some (.int .u32 0) ∧ iu0.size = 1 ∧ iu0.bytes = 4)
  clear hi hz0 hz1 hz2
  obtain ⟨F, hF⟩ : ∃ F : LF, (gaAll 0 (0, fun _ => none) ls).2 = F := ⟨_, rfl⟩
  have HX : Hid (textV ls = txRun F 0 ls []) := Lib.hid (by unfold textV; rw [hF])
  have HF : Hid (∀ x, F x = fnd (nlF 0 0 ls) x) := Lib.hid (fun x => by rw [← hF]; exact ga_all ls x)
  clear hL hF
  go_enter Tryz.func7, Tryz.ntmps7
  go_upto_region 5 with fail
  generalize hA : World.alloc w _ = w1
  obtain ⟨R, hR⟩ : ∃ R, R = w.heap.size := ⟨_, rfl⟩
  have HR1 : Hid (F3 w1 R) := Lib.hid (by rw [← hA, hR]; exact F3.new _ _)
  have HB1 : Hid (Below w.heap.size w w1) := Lib.hid (by rw [← hA]; exact (Below.refl _ _).alloc (Nat.le_refl _) _)
  have HRR : Hid (w.heap.size ≤ R) := Lib.hid (by rw [hR]; exact Nat.le_refl _)
  have HRb : Hid (R < w1.heap.size) := Lib.hid HR1.out.lt
  rw [← hR]
  clear hR hA
  obtain ⟨b0, hb0⟩ : ∃ b0, b0 = w1.heap.size := ⟨_, rfl⟩
  have HB0 : Hid (b0 ≤ w1.heap.size ∧ w1.heap.size ≤ b0) := Lib.hid (by rw [hb0]; exact ⟨Nat.le_refl _, Nat.le_refl _⟩)
  clear hb0
  go_loopw [4, 5, 6, 7] (fun nv pv av i wr => ∃ (k nk cn cp at' : Nat) (an ap : Option Addr), k ≤ m ∧ nk ≤ k ∧ at' ≤ k ∧ i = .int .i64 k ∧ av = .int .i64 at' ∧ nv = .slice an nk cn ∧ pv = .slice ap nk cp ∧ at' = atF 0 (ls.take k) ∧ N2 wr b0 an ap cn cp nk (nlF 0 0 (ls.take k)) ∧ Below w1.heap.size w1 wr) (fun _ _ _ i _ => m - (intOf i).toNat)
  case atStart => exact ⟨0, 0, 0, 0, 0, none, none, by omega, by omega, by omega, rfl, rfl, rfl, rfl, rfl, ⟨rfl, World.ownsRow_nil _ _ _ _, World.ownsRow_nil _ _ _ _, .inl rfl⟩, Below.refl _ _⟩
  case round =>
    obtain ⟨k, nk, cn, cp, at', an, ap, hk, hnk, hak, rfl, rfl, rfl, rfl, hat, hN2, hbr⟩ := hrel
    have HN2 := Lib.hid hN2
    have HBr := Lib.hid hbr
    have HAt := Lib.hid hat
    have HBw := Lib.hid (HB1.out.trans (hbr.mono HB1.out.size))
    by_cases hlt : k < m
    · have hkl : k < ls.length := by rw [hm.out]; exact hlt
      obtain ⟨adl, rfl, h1, cl⟩ := (HL.out.below HBw.out) k hkl
      obtain ⟨s, hs⟩ : ∃ s, ls.getD k ⟨#[]⟩ = s := ⟨_, rfl⟩
      have hs9 : s.size ≤ 900 := by rw [← hs]; exact hsz.out k
      rw [hs] at cl
      have HNl := Lib.hid (nl_take ls k hkl)
      have HAl := Lib.hid (at_take ls k hkl)
      rw [hs] at HNl HAl
      obtain ⟨nt, HNt⟩ : ∃ nt, Hid ((tokB s).length = nt) := ⟨_, Lib.hid rfl⟩
      have hn1 : nt ≤ 1000 := by rw [← HNt.out]; exact Nat.le_trans (tok_count s) (by omega)
      have HTz : Hid (∀ i, ((tokB s).getD i ⟨#[]⟩).size ≤ 900) := Lib.hid (fun i => Nat.le_trans (tok_size s i) hs9)
      have HTn : Hid (∀ i, i < nt → ((tokB s).getD i ⟨#[]⟩).data.toList ≠ []) := Lib.hid (fun i hi => tok_ne s i (by rw [HNt.out]; exact hi))
      obtain ⟨nm, t, hnr⟩ := nmr_ex (tokB s)
      have HNr := Lib.hid hnr
      have k0 : (0 : Int) ≤ (k : Int) := by omega
      have k1 : (k : Int) < (m : Int) := by omega
      have a0 : (at' : Int) ≤ 1000 := by omega
      cases t with
      | true =>
        have hno : nmIn (tokB s) = some nm.data.toList := by
          rcases hnr with ⟨h2, _⟩ | ⟨_, h2, _⟩
          · exact h2
          · cases h2
        have HNl2 : Hid (nlF 0 0 (ls.take (k + 1)) = nlF 0 0 (ls.take k) ++ [(nm.data.toList, k, at')]) := Lib.hid (by rw [HNl.out, hno, HAt.out])
        have HAl2 : Hid (at' = atF 0 (ls.take (k + 1))) := Lib.hid (by rw [HAl.out, hno]; exact HAt.out)
        have HNmV : Hid ((Value.string nm) = nmV (nm.data.toList, k, at')) := Lib.hid (by unfold nmV; rfl)
        clear hN2 hbr hat hnr hno hkl h1 hs
        go_wp2_with (first
          | (go_at_call 15; (with_reducible refine (rsplit_is s hs9 _).mono ?_); rintro e w2 ⟨al, nt', cl2, rfl, hl⟩; obtain rfl : nt = nt' := (by have := hl.len; rw [HNt.out] at this; exact this); have HT := Lib.hid (RowC.of (l := wsV (tokB s)) hl.row (by unfold wsV; rw [List.length_map]; exact hl.len)); have HB2 := Lib.hid hl.bel; clear hl)
          | (go_at_call 16; (with_reducible refine (rlabel_is al cl2 nt (tokB s) HNt hn1 HTz nm true HNr.out _ HT.out).mono ?_); rintro e w3 ⟨rfl, hb⟩; have HB3 := Lib.hid (HB2.out.trans (hb.mono HB2.out.size)); have HN3 := Lib.hid (HN2.out.below HB3.out); have HBx3 := Lib.hid (HBr.out.trans (HB3.out.mono HBr.out.size)); have HS3 := Lib.hid (Nat.le_trans HB0.out.1 HBx3.out.size); clear hb)
          | (at_builtin; refine wpList_append_own_at _ rfl _ _ 22 rfl b0 9 is0 (.string ⟨#[]⟩) 1 16 Tryz.underlying22 HIs.out.1 HIs.out.2.1 HIs.out.2.2.1 HIs.out.2.2.2 rfl (by decide) _ nk _ rfl (HN3.out.nr.alloc _) ⟨w3.heap.size, 0, none⟩ 1 1 [.string nm] rfl rfl (cell_one_new _ _ _) (one_str _) (by unfold maxLen; omega) (by omega) (by have := HS3.out; simp at this ⊢; omega) ?_; intro v2 w5 hrow hg3 hnil hloc); have HP5 := Lib.hid ((HN3.out.pr.alloc _).kept hg3 HN3.out.ne); have HBx5 := Lib.hid ((HBx3.out.alloc HBx3.out.size _).grown hg3 (by have := HBx3.out.size; simp; omega) (fun g hg => Nat.le_trans HB0.out.2 (HN3.out.nr.lt g hg).1)); have HS5 := Lib.hid (Nat.le_trans HB0.out.1 HBx5.out.size); have HRow := Lib.hid hrow; have HG3 := Lib.hid hg3; have HLo := Lib.hid hloc; clear hrow hg3 hnil hloc
          | (at_builtin; refine wpList_append_own_at _ rfl _ _ 49 rfl b0 3 ii0 (.int .i64 0) 1 8 Tryz.underlying49 HIi.out.1 HIi.out.2.1 HIi.out.2.2.1 HIi.out.2.2.2 rfl (by decide) _ nk _ rfl (HP5.out.alloc _) ⟨w5.heap.size, 0, none⟩ 1 1 [.int .i64 (at' : Int)] rfl rfl (cell_one_new _ _ _) (one_int _) (by unfold maxLen; omega) (by omega) (by have := HS5.out; simp at this ⊢; omega) ?_; intro v4 w6 hrow4 hg4 hnil4 hloc4))
        have HBx6 := Lib.hid ((HBx5.out.alloc HBx5.out.size _).grown hg4 (by have := HBx5.out.size; simp; omega) (fun g hg => Nat.le_trans HB0.out.2 (HP5.out.lt g hg).1))
        obtain ⟨an', cn', ap', cp', rfl, rfl, hN6⟩ := HN3.out.more (x := (nm.data.toList, k, at')) (by rw [← HNmV.out]; exact HRow.out) HG3.out HLo.out hrow4 hg4 hloc4
        rw [← HNl2.out] at hN6
        have HN6 := Lib.hid hN6
        clear hN6 hrow4 hg4 hnil4 hloc4
        go_roundw
        case rel => exact ⟨k + 1, nk + 1, cn', cp', at', an', ap', by omega, by omega, by omega, by go_num, rfl, rfl, rfl, HAl2.out, HN6.out, HBx6.out⟩
        case measure => simp [intOf]; omega
      | false =>
        have hno : nmIn (tokB s) = none := by
          rcases hnr with ⟨_, h2⟩ | ⟨h2, _⟩
          · cases h2
          · exact h2
        have HNl2 : Hid (nlF 0 0 (ls.take (k + 1)) = nlF 0 0 (ls.take k)) := Lib.hid (by rw [HNl.out, hno, List.append_nil])
        cases hsil : silentL (tokB s) with
        | true =>
          have HSi := Lib.hid hsil
          have HAl2 : Hid (at' = atF 0 (ls.take (k + 1))) := Lib.hid (by rw [HAl.out, hno]; simp only; rw [if_pos hsil]; exact HAt.out)
          clear hN2 hbr hat hnr hno hkl h1 hs hsil
          go_wp2_with (first
            | (go_at_call 15; (with_reducible refine (rsplit_is s hs9 _).mono ?_); rintro e w2 ⟨al, nt', cl2, rfl, hl⟩; obtain rfl : nt = nt' := (by have := hl.len; rw [HNt.out] at this; exact this); have HT := Lib.hid (RowC.of (l := wsV (tokB s)) hl.row (by unfold wsV; rw [List.length_map]; exact hl.len)); have HB2 := Lib.hid hl.bel; clear hl)
            | (go_at_call 16; (with_reducible refine (rlabel_is al cl2 nt (tokB s) HNt hn1 HTz nm false HNr.out _ HT.out).mono ?_); rintro e w3 ⟨rfl, hb⟩; have HB3 := Lib.hid (HB2.out.trans (hb.mono HB2.out.size)); have HT3 := Lib.hid (HT.out.below hb); clear hb)
            | (go_at_call 17; (with_reducible refine (rsilent_is al cl2 nt (tokB s) HNt hn1 HTn true HSi _ HT3.out).mono ?_); rintro e w4 ⟨rfl, hb⟩; have HB4 := Lib.hid (HB3.out.trans (hb.mono HB3.out.size)); have HN4 := Lib.hid (HN2.out.below HB4.out); have HBx4 := Lib.hid (HBr.out.trans (HB4.out.mono HBr.out.size)); clear hb))
          go_roundw
          case rel => exact ⟨k + 1, nk, cn, cp, at', an, ap, by omega, by omega, by omega, by go_num, rfl, rfl, rfl, HAl2.out, by rw [HNl2.out]; exact HN4.out, HBx4.out⟩
          case measure => simp [intOf]; omega
        | false =>
          have HSi := Lib.hid hsil
          have HAl2 : Hid (at' + 1 = atF 0 (ls.take (k + 1))) := Lib.hid (by rw [HAl.out, hno]; simp only; rw [if_neg (by rw [hsil]; decide), HAt.out])
          clear hN2 hbr hat hnr hno hkl h1 hs hsil
          go_wp2_with (first
            | (go_at_call 15; (with_reducible refine (rsplit_is s hs9 _).mono ?_); rintro e w2 ⟨al, nt', cl2, rfl, hl⟩; obtain rfl : nt = nt' := (by have := hl.len; rw [HNt.out] at this; exact this); have HT := Lib.hid (RowC.of (l := wsV (tokB s)) hl.row (by unfold wsV; rw [List.length_map]; exact hl.len)); have HB2 := Lib.hid hl.bel; clear hl)
            | (go_at_call 16; (with_reducible refine (rlabel_is al cl2 nt (tokB s) HNt hn1 HTz nm false HNr.out _ HT.out).mono ?_); rintro e w3 ⟨rfl, hb⟩; have HB3 := Lib.hid (HB2.out.trans (hb.mono HB2.out.size)); have HT3 := Lib.hid (HT.out.below hb); clear hb)
            | (go_at_call 17; (with_reducible refine (rsilent_is al cl2 nt (tokB s) HNt hn1 HTn false HSi _ HT3.out).mono ?_); rintro e w4 ⟨rfl, hb⟩; have HB4 := Lib.hid (HB3.out.trans (hb.mono HB3.out.size)); have HN4 := Lib.hid (HN2.out.below HB4.out); have HBx4 := Lib.hid (HBr.out.trans (HB4.out.mono HBr.out.size)); clear hb))
          go_roundw
          case rel => exact ⟨k + 1, nk, cn, cp, at' + 1, an, ap, by omega, by omega, by omega, by go_num, by go_num, rfl, rfl, HAl2.out, by rw [HNl2.out]; exact HN4.out, HBx4.out⟩
          case measure => simp [intOf]; omega
    · obtain rfl : k = m := by omega
      obtain ⟨w2, hw2⟩ : ∃ w2, w2 = wr := ⟨_, rfl⟩
      subst hw2
      have hall : ls.take k = ls := List.take_of_length_le (by rw [hm.out]; exact Nat.le_refl _)
      have hN := HN2.out
      rw [hall] at hN
      obtain ⟨NL, hNL⟩ : ∃ NL, nlF 0 0 ls = NL := ⟨_, rfl⟩
      have HNL := Lib.hid hNL
      have HF2 : Hid (∀ x, F x = fnd NL x) := Lib.hid (fun x => by rw [← hNL]; exact HF.out x)
      rw [hNL] at hN
      have HLe : Hid (NL.length = nk) := Lib.hid hN.len
      have HNr2 : Hid (RowC w2 an (NL.map nmV)) := Lib.hid (RowC.of hN.nr (by rw [List.length_map, hN.len]))
      have HPr2 : Hid (RowC w2 ap (NL.map plV)) := Lib.hid (RowC.of hN.pr (by rw [List.length_map, hN.len]))
      have HR2 := Lib.hid (HR1.out.below hbr)
      have HL2 := Lib.hid (HL.out.below HBw.out)
      have hdd : decide (k < k) = false := by simp
      obtain ⟨b1, hb1⟩ : ∃ b1, b1 = w2.heap.size := ⟨_, rfl⟩
      have HB10 : Hid (b1 ≤ w2.heap.size ∧ w2.heap.size ≤ b1) := Lib.hid (by rw [hb1]; exact ⟨Nat.le_refl _, Nat.le_refl _⟩)
      have HRl : Hid (R < b1) := Lib.hid (by rw [hb1]; exact HR2.out.lt)
      clear hall hN hNL hb1 hlt hbr hat HN2 hN2 hak HAt
      go_upto_region 17 with fail
      clear hdd
      go_loopw [11, 12, 13] (fun ov kv iv wr => ∃ (j n cp2 kn : Nat) (acc : List Int) (ad : Option Addr), j ≤ k ∧ n ≤ j ∧ iv = .int .i64 j ∧ ov = .slice ad n cp2 ∧ acc.length = n ∧ kv = .int .i64 kn ∧ kn = (nlF 0 0 (ls.take j)).length ∧ wr.ownsRow b1 38 1 (.slice ad n cp2) n (acc.map Go.Proofs.YtaekccgcnlepaaaGreatDoor.u32) ∧ txRun F 0 ls [] = txRun F j (ls.drop j) acc ∧ Below w2.heap.size w2 wr) (fun _ _ i _ => k - (intOf i).toNat)
      case atStart => exact ⟨0, 0, 0, 0, [], none, by omega, by omega, rfl, rfl, rfl, rfl, rfl, World.ownsRow_nil _ _ _ _, rfl, Below.refl _ _⟩
      case round =>
        obtain ⟨j, n, cp2, kn, acc, ad, hj, hnj, rfl, rfl, hacc, rfl, hkn, hrow, hrun, hbr⟩ := hrel
        obtain ⟨w8, hw8⟩ : ∃ w8, w8 = wr := ⟨_, rfl⟩
        subst hw8
        have HAcc := Lib.hid hacc
        have HKn := Lib.hid hkn
        have HRow := Lib.hid hrow
        have HRun := Lib.hid hrun
        have HB8 := Lib.hid hbr
        by_cases hlt : j < k
        · have hkl : j < ls.length := by rw [hm.out]; exact hlt
          obtain ⟨adl, rfl, h1, cl⟩ := (HL2.out.below HB8.out) j hkl
          obtain ⟨s, hs⟩ : ∃ s, ls.getD j ⟨#[]⟩ = s := ⟨_, rfl⟩
          have hs9 : s.size ≤ 900 := by rw [← hs]; exact hsz.out j
          have hsj : ls[j] = s := by rw [← hs]; simp [List.getD, hkl]
          have hdr : ls.drop j = s :: ls.drop (j + 1) := by rw [List.drop_eq_getElem_cons hkl, hsj]
          have hsplit : ls = ls.take j ++ s :: ls.drop (j + 1) := by rw [← hdr, List.take_append_drop]
          have hlen : (ls.take j).length = j := by rw [List.length_take]; omega
          have hpre : NL = nlF 0 0 (ls.take j) ++ nlF j (atF 0 (ls.take j)) (s :: ls.drop (j + 1)) := by
            rw [← HNL.out]
            conv => lhs; rw [hsplit]
            rw [nlF_append, hlen, Nat.zero_add]
          have HPre : Hid (nlF 0 0 (ls.take j) = NL.take kn) := Lib.hid (by rw [hpre, hkn, List.take_left])
          have hknk : kn ≤ nk := by rw [← HLe.out, hpre, List.length_append, ← hkn]; omega
          rw [hs] at cl
          have HNl := Lib.hid (nl_take ls j hkl)
          rw [hs] at HNl
          obtain ⟨nt, HNt⟩ : ∃ nt, Hid ((tokB s).length = nt) := ⟨_, Lib.hid rfl⟩
          have hn1 : nt ≤ 1000 := by rw [← HNt.out]; exact Nat.le_trans (tok_count s) (by omega)
          have HTz : Hid (∀ i, ((tokB s).getD i ⟨#[]⟩).size ≤ 900) := Lib.hid (fun i => Nat.le_trans (tok_size s i) hs9)
          have HTn : Hid (∀ i, i < nt → ((tokB s).getD i ⟨#[]⟩).data.toList ≠ []) := Lib.hid (fun i hi => tok_ne s i (by rw [HNt.out]; exact hi))
          have k0 : (0 : Int) ≤ (j : Int) := by omega
          have k1 : (j : Int) < (k : Int) := by omega
          have kq : (kn : Int) ≤ 1000 := by omega
          have hr2 := HRun.out
          rw [hdr] at hr2
          have HR2r := Lib.hid hr2
          have HSpl := Lib.hid hsplit
          have HLn := Lib.hid hlen
          have HLt := Lib.hid h1
          clear hrow hrun hacc hbr hs hsj hkl h1 hdr hr2 hkn hpre hsplit hlen
          cases hsil : silentL (tokB s) with
          | true =>
            have HSi := Lib.hid hsil
            have hno : nmIn (tokB s) = none := by
              cases hq : nmIn (tokB s) with
              | none => rfl
              | some y => rw [nm_loud hq] at hsil; cases hsil
            have HE : Hid (txRun F 0 ls [] = txRun F (j + 1) (ls.drop (j + 1)) acc) := Lib.hid (by
              rw [HR2r.out]
              simp only [txRun, wd_sil hsil]
              rfl)
            have HK2 : Hid (kn = (nlF 0 0 (ls.take (j + 1))).length) := Lib.hid (by rw [HNl.out, hno, List.append_nil]; exact HKn.out)
            clear hsil hno
            go_wp2_with (first
              | (go_at_call 15; (with_reducible refine (rsplit_is s hs9 _).mono ?_); rintro e w2 ⟨al, nt', cl2, rfl, hl⟩; obtain rfl : nt = nt' := (by have := hl.len; rw [HNt.out] at this; exact this); have HT := Lib.hid (RowC.of (l := wsV (tokB s)) hl.row (by unfold wsV; rw [List.length_map]; exact hl.len)); have HB2 := Lib.hid hl.bel; clear hl)
              | (go_at_call 17; (with_reducible refine (rsilent_is al cl2 nt (tokB s) HNt hn1 HTn true HSi _ HT.out).mono ?_); rintro e w3 ⟨rfl, hb⟩; have HB3 := Lib.hid (HB2.out.trans (hb.mono HB2.out.size)); have HT3 := Lib.hid (HT.out.below hb); clear hb))
            have HX3 := Lib.hid (HB8.out.trans (HB3.out.mono HB8.out.size))
            have HR3 := Lib.hid (own_keep HRow.out HB3.out)
            go_roundw
            case rel => exact ⟨j + 1, n, cp2, kn, acc, ad, by omega, by omega, by go_num, rfl, HAcc.out, rfl, HK2.out, HR3.out, HE.out, HX3.out⟩
            case measure => simp [intOf]; omega
          | false =>
            have HSi := Lib.hid hsil
            have hnt0 : 0 < nt := by
              rw [← HNt.out]
              cases hq : tokB s with
              | nil => rw [hq] at hsil; cases hsil
              | cons x r => simp
            obtain ⟨nm, t, hnr⟩ := nmr_ex (tokB s)
            have HNr := Lib.hid hnr
            cases t with
            | true =>
              have hno : nmIn (tokB s) = some nm.data.toList := by
                rcases hnr with ⟨h2, _⟩ | ⟨_, h2, _⟩
                · exact h2
                · cases h2
              have hdup := dup_line (ls.take j) (ls.drop (j + 1)) s nm.data.toList hno
              rw [← HSpl.out, HNL.out, HLn.out, HPre.out] at hdup
              have HDup := Lib.hid hdup
              have HWn := Lib.hid (wd_nm (F := F) (line := j) hno)
              have HK2 : Hid (kn + 1 = (nlF 0 0 (ls.take (j + 1))).length) := Lib.hid (by rw [HNl.out, hno, List.length_append, ← HKn.out]; rfl)
              clear hsil hno hdup hnr
              go_upto_region 24 with (first
                | (go_at_call 15; (with_reducible refine (rsplit_is s hs9 _).mono ?_); rintro e w2 ⟨al, nt', cl2, rfl, hl⟩; obtain rfl : nt = nt' := (by have := hl.len; rw [HNt.out] at this; exact this); have HT := Lib.hid (RowC.of (l := wsV (tokB s)) hl.row (by unfold wsV; rw [List.length_map]; exact hl.len)); have HB2 := Lib.hid hl.bel; clear hl)
                | (go_at_call 17; (with_reducible refine (rsilent_is al cl2 nt (tokB s) HNt hn1 HTn false HSi _ HT.out).mono ?_); rintro e w3 ⟨rfl, hb⟩; have HB3 := Lib.hid (HB2.out.trans (hb.mono HB2.out.size)); have HT3 := Lib.hid (HT.out.below hb); clear hb)
                | (go_at_call 16; (with_reducible refine (rlabel_is al cl2 nt (tokB s) HNt hn1 HTz nm true HNr.out _ HT3.out).mono ?_); rintro e w4 ⟨rfl, hb⟩; have HB4 := Lib.hid (HB3.out.trans (hb.mono HB3.out.size)); have HT4 := Lib.hid (HT3.out.below hb); clear hb))
              have HX4 := Lib.hid (HB8.out.trans (HB4.out.mono HB8.out.size))
              have HR4 := Lib.hid (own_keep HRow.out HB4.out)
              have HNr4 := Lib.hid (HNr2.out.below HX4.out)
              go_loopw [17] (fun qv wr => ∃ q : Nat, q ≤ kn ∧ qv = .int .i64 q ∧ (∀ i, (hi : i < q) → ∀ x, NL[i]? = some x → x.1 ≠ nm.data.toList) ∧ Below w4.heap.size w4 wr) (fun qv _ => kn - (intOf qv).toNat)
              case atStart => exact ⟨0, by omega, rfl, fun i hi => by omega, Below.refl _ _⟩
              case round =>
                obtain ⟨q, hq, rfl, hne, hbq⟩ := hrel
                have HNe := Lib.hid hne
                have HBq := Lib.hid hbq
                have HX5 := Lib.hid (HX4.out.trans (hbq.mono HX4.out.size))
                by_cases hqk : q < kn
                · have hqN : q < NL.length := by rw [HLe.out]; omega
                  obtain ⟨gn, rfl, hgn, hcn⟩ := HNr4.out q (nmV NL[q]) (by rw [List.getElem?_map, List.getElem?_eq_getElem hqN]; rfl)
                  have cn1 := (hbq.cell (p := ⟨gn, q, none⟩) hgn).trans hcn
                  obtain ⟨z, hz⟩ : ∃ z : ByteArray, (⟨(NL[q]).1.toArray⟩ : ByteArray) = z := ⟨_, rfl⟩
                  have hzz : (NL[q]).1 = z.data.toList := by rw [← hz]
                  have hgq : NL[q]? = some NL[q] := List.getElem?_eq_getElem hqN
                  unfold nmV at cn1
                  rw [hz] at cn1
                  have i1 : (q : Int) < (kn : Int) := by omega
                  have i2 : (0 : Int) ≤ (q : Int) := by omega
                  have i3 : (q : Int) < (nk : Int) := by omega
                  by_cases hzn : z = nm
                  · have he : (z.toList == nm.toList) = true := by rw [hzn]; simp
                    have HE : Hid (textV ls = ([], some (j, 3))) := Lib.hid (by
                      rw [HX.out, HR2r.out]
                      have : wdV F j (tokB s) = ((0, false), some 3) := by
                        rw [HWn.out, if_neg]
                        rw [HF2.out]
                        intro e
                        refine (HDup.out.1 e) ⟨NL[q], ?_, by rw [hzz, hzn]⟩
                        exact List.mem_of_getElem? (i := q) (by rw [List.getElem?_take, if_pos hqk]; exact hgq)
                      simp only [txRun, this])
                    clear hne hbq hqN hcn hz hzz hgq hzn
                    go_wp2_with (first | (go_at_call 18; (with_reducible refine (placed_is 104 (j : Int) (by decide) _).mono ?_); rintro e w9 ⟨rfl, hb⟩; have HB9 := Lib.hid (HX5.out.trans (hb.mono HX5.out.size)); clear hb; have HR9 := Lib.hid (HR2.out.below HB9.out); have f0 := HR9.out.c0; have f1 := HR9.out.c1; have f2 := HR9.out.c2; have ff := HR9.out.fz))
                    obtain ⟨q0, q1, q2⟩ := set3 (b := R) (.int .i64 104) (.bool true) (.int .i64 (j : Int)) f0 f1 f2; refine bodyPost_ret (v := .tuple #[.slice none 0 0, Value.agg #[.int .i64 104, .bool true, .int .i64 (j : Int)]]) (by simp [results, Tryz.results7, go_sem, q0, q1, q2]) rfl ⟨(rx_err HE.out rfl), bel3 (HBw.out.trans (HB9.out.mono HBw.out.size)) HRR.out⟩
                  · have he : (z.toList == nm.toList) = false := by rw [ba_leq]; exact decide_eq_false hzn
                    have HNe2 : Hid (∀ i, (hi : i < q + 1) → ∀ x, NL[i]? = some x → x.1 ≠ nm.data.toList) := Lib.hid (fun i hi x hx => by
                      by_cases e : i = q
                      · subst e
                        rw [hgq] at hx
                        injection hx with hx
                        rw [← hx, hzz]
                        exact fun e => hzn (ByteArray.ext (Array.toList_inj.1 e))
                      · exact HNe.out i (by omega) x hx)
                    clear hne hbq hqN hcn hz hzz hgq hzn
                    go_wp2_with fail
                    go_roundw
                    case rel => exact ⟨q + 1, by omega, by go_num, HNe2.out, HBq.out⟩
                    case measure => simp [intOf]; omega
                · obtain rfl : q = kn := by omega
                  have HE : Hid (txRun F 0 ls [] = txRun F (j + 1) (ls.drop (j + 1)) acc) := Lib.hid (by
                    rw [HR2r.out]
                    have : wdV F j (tokB s) = ((0, false), none) := by
                      rw [HWn.out, if_pos]
                      rw [HF2.out]
                      refine HDup.out.2 ?_
                      rintro ⟨x, hx, e⟩
                      obtain ⟨i, hi⟩ := List.mem_iff_getElem?.1 hx
                      rw [List.getElem?_take] at hi
                      split at hi
                      · rename_i hiq
                        exact HNe.out i hiq x hi e
                      · cases hi
                    simp only [txRun, this]
                    rfl)
                  have hdd : decide (q < q) = false := by simp
                  have HR5 := Lib.hid (own_keep HR4.out HBq.out)
                  clear hne hbq hqk
                  go_wp2_with fail
                  go_roundw
                  case rel => exact ⟨j + 1, n, cp2, q + 1, acc, ad, by omega, by omega, by go_num, rfl, HAcc.out, by go_num, HK2.out, HR5.out, HE.out, HX5.out⟩
                  case measure => simp [intOf]; omega
            | false =>
              have hno : nmIn (tokB s) = none := by
                rcases hnr with ⟨_, h2⟩ | ⟨h2, _⟩
                · cases h2
                · exact h2
              have HNo := Lib.hid hno
              have HCl : Hid (∀ W, Below w8.heap.size w8 W → W.cell? (adl.add j) = some (.string s)) := Lib.hid (fun W hW => (hW.cell (p := adl.add j) (by rw [add_blockL]; exact HLt.out)).trans cl)
              have HK2 : Hid (kn = (nlF 0 0 (ls.take (j + 1))).length) := Lib.hid (by rw [HNl.out, hno, List.append_nil]; exact HKn.out)
              obtain ⟨⟨⟨v, t⟩, o⟩, hwd⟩ : ∃ y, wdV F j (tokB s) = y := ⟨_, rfl⟩
              have HWd := Lib.hid hwd
              cases o with
              | some er =>
                obtain ⟨tt, htt⟩ : ∃ tt : Int, 101 + (er : Int) = tt := ⟨_, rfl⟩
                have HTT := Lib.hid htt
                have HO : Hid (outA (wdV F j (tokB s)) = (0, tt)) := Lib.hid (by rw [hwd, ← htt]; rfl)
                have HE : Hid (textV ls = ([], some (j, er))) := Lib.hid (by
                  rw [HX.out, HR2r.out]
                  simp only [txRun, hwd])
                have ht0 : (tt == 0) = false := by rw [beq_eq_false_iff_ne]; omega
                have ht1 : (tt != 0) = true := by rw [bne_iff_ne]; omega
                clear hsil hno hnr hwd htt
                go_wp2_with (first
                  | (go_at_call 15; (with_reducible refine (rsplit_is s hs9 _).mono ?_); rintro e w2 ⟨al, nt', cl2, rfl, hl⟩; obtain rfl : nt = nt' := (by have := hl.len; rw [HNt.out] at this; exact this); have HT := Lib.hid (RowC.of (l := wsV (tokB s)) hl.row (by unfold wsV; rw [List.length_map]; exact hl.len)); have HB2 := Lib.hid hl.bel; clear hl)
                  | (go_at_call 17; (with_reducible refine (rsilent_is al cl2 nt (tokB s) HNt hn1 HTn false HSi _ HT.out).mono ?_); rintro e w3 ⟨rfl, hb⟩; have HB3 := Lib.hid (HB2.out.trans (hb.mono HB2.out.size)); have HT3 := Lib.hid (HT.out.below hb); clear hb)
                  | (go_at_call 16; (with_reducible refine (rlabel_is al cl2 nt (tokB s) HNt hn1 HTz nm false HNr.out _ HT3.out).mono ?_); rintro e w4 ⟨rfl, hb⟩; have HB4 := Lib.hid (HB3.out.trans (hb.mono HB3.out.size)); have HT4 := Lib.hid (HT3.out.below hb); clear hb); have cl4 := HCl.out _ HB4.out
                  | (go_at_call 19; obtain ⟨g, hg, hT5⟩ := HT4.out.g (by unfold wsV; rw [List.length_map, HNt.out]; exact hnt0); subst hg; (with_reducible refine (rasmword_is s hs9 g cl2 nt HNt hnt0 hn1 an ap cn cp nk NL HLe (by omega) _ hT5 (HNr2.out.below (HB8.out.trans (HB4.out.mono HB8.out.size))) (HPr2.out.below (HB8.out.trans (HB4.out.mono HB8.out.size))) F HF2 j HSi HNo 0 tt HO).mono ?_); rintro e w5 ⟨rfl, hb⟩; have HB5 := Lib.hid (HB8.out.trans ((HB4.out.trans (hb.mono HB4.out.size)).mono HB8.out.size)); clear hb)
                  | (go_at_call 18; (with_reducible refine (placed_is tt (j : Int) ht0 _).mono ?_); rintro e w9 ⟨rfl, hb⟩; have HB9 := Lib.hid (HB5.out.trans (hb.mono HB5.out.size)); clear hb; have HR9 := Lib.hid (HR2.out.below HB9.out); have f0 := HR9.out.c0; have f1 := HR9.out.c1; have f2 := HR9.out.c2; have ff := HR9.out.fz))
                obtain ⟨q0, q1, q2⟩ := set3 (b := R) (.int .i64 tt) (.bool true) (.int .i64 (j : Int)) f0 f1 f2; refine bodyPost_ret (v := .tuple #[.slice none 0 0, Value.agg #[.int .i64 tt, .bool true, .int .i64 (j : Int)]]) (by simp [results, Tryz.results7, go_sem, q0, q1, q2]) rfl ⟨(rx_err HE.out HTT.out), bel3 (HBw.out.trans (HB9.out.mono HBw.out.size)) HRR.out⟩
              | none =>
                obtain rfl : t = true := wd_true hsil hno hwd
                have HO : Hid (outA (wdV F j (tokB s)) = (v, 0)) := Lib.hid (by rw [hwd]; rfl)
                have HE : Hid (txRun F 0 ls [] = txRun F (j + 1) (ls.drop (j + 1)) (acc ++ [v])) := Lib.hid (by
                  rw [HR2r.out]
                  simp only [txRun, hwd, if_true])
                clear hsil hno hnr hwd
                go_wp2_with (first
                  | (go_at_call 15; (with_reducible refine (rsplit_is s hs9 _).mono ?_); rintro e w2 ⟨al, nt', cl2, rfl, hl⟩; obtain rfl : nt = nt' := (by have := hl.len; rw [HNt.out] at this; exact this); have HT := Lib.hid (RowC.of (l := wsV (tokB s)) hl.row (by unfold wsV; rw [List.length_map]; exact hl.len)); have HB2 := Lib.hid hl.bel; clear hl)
                  | (go_at_call 17; (with_reducible refine (rsilent_is al cl2 nt (tokB s) HNt hn1 HTn false HSi _ HT.out).mono ?_); rintro e w3 ⟨rfl, hb⟩; have HB3 := Lib.hid (HB2.out.trans (hb.mono HB2.out.size)); have HT3 := Lib.hid (HT.out.below hb); clear hb)
                  | (go_at_call 16; (with_reducible refine (rlabel_is al cl2 nt (tokB s) HNt hn1 HTz nm false HNr.out _ HT3.out).mono ?_); rintro e w4 ⟨rfl, hb⟩; have HB4 := Lib.hid (HB3.out.trans (hb.mono HB3.out.size)); have HT4 := Lib.hid (HT3.out.below hb); clear hb); have cl4 := HCl.out _ HB4.out
                  | (go_at_call 19; obtain ⟨g, hg, hT5⟩ := HT4.out.g (by unfold wsV; rw [List.length_map, HNt.out]; exact hnt0); subst hg; (with_reducible refine (rasmword_is s hs9 g cl2 nt HNt hnt0 hn1 an ap cn cp nk NL HLe (by omega) _ hT5 (HNr2.out.below (HB8.out.trans (HB4.out.mono HB8.out.size))) (HPr2.out.below (HB8.out.trans (HB4.out.mono HB8.out.size))) F HF2 j HSi HNo v 0 HO).mono ?_); rintro e w5 ⟨rfl, hb⟩; have HB5 := Lib.hid (HB8.out.trans ((HB4.out.trans (hb.mono HB4.out.size)).mono HB8.out.size)); have HR5 := Lib.hid (own_keep HRow.out (HB4.out.trans (hb.mono HB4.out.size))); have HS5 := Lib.hid (Nat.le_trans HB10.out.1 HB5.out.size); clear hb)
                  | (at_builtin; refine wpList_append_own_at _ rfl _ _ 23 rfl b1 38 iu0 (.int .u32 0) 1 4 Tryz.underlying23 HIu.out.1 HIu.out.2.1 HIu.out.2.2.1 HIu.out.2.2.2 rfl (by decide) _ n _ rfl (HR5.out.alloc _) ⟨w5.heap.size, 0, none⟩ 1 1 [.int .u32 v] rfl rfl (cell_one_new _ _ _) (one_u32 _) (by unfold maxLen; omega) (by omega) (by have := HS5.out; simp at this ⊢; omega) ?_; intro v2 w5 hrow hg3 hnil hloc))
                have HX6 := Lib.hid ((HB5.out.alloc HB5.out.size _).grown hg3 (by have := HB5.out.size; simp; omega) (fun g hg => Nat.le_trans HB10.out.2 (HR5.out.lt g hg).1))
                obtain ⟨a3, c3, hv3⟩ := owns_shp hrow
                subst hv3
                have HR6 : Hid (_ : Prop) := Lib.hid hrow
                have hl4 : (acc ++ [v]).length = n + 1 := by rw [List.length_append, HAcc.out]; rfl
                clear hrow hg3 hnil hloc
                go_roundw
                case rel => exact ⟨j + 1, n + 1, c3, kn, acc ++ [v], a3, by omega, by omega, by go_num, rfl, hl4, rfl, HK2.out, by rw [List.map_append]; exact HR6.out, HE.out, HX6.out⟩
                case measure => simp [intOf]; omega
        · obtain rfl : j = k := by omega
          have HE : Hid (textV ls = (acc, none)) := Lib.hid (by
            rw [HX.out, hrun, List.drop_of_length_le (by rw [hm.out]; exact Nat.le_refl _)]
            rfl)
          have hdd : decide (j < j) = false := by simp
          clear hrow hrun hbr hacc hkn hlt
          go_wp2_with (first
            | (go_at_call 20; (with_reducible refine (none_is _).mono ?_); rintro e w9 ⟨rfl, hb⟩; have HB9 := Lib.hid (HB8.out.trans (hb.mono HB8.out.size)); have HO9 := Lib.hid (own_keep HRow.out hb); clear hb; have HR9 := Lib.hid (HR2.out.below HB9.out); have f0 := HR9.out.c0; have f1 := HR9.out.c1; have f2 := HR9.out.c2; have ff := HR9.out.fz))
          obtain ⟨q0, q1, q2⟩ := set3 (b := R) (.int .i64 0) (.bool false) (.int .i64 0) f0 f1 f2; refine bodyPost_ret (v := .tuple #[.slice ad n cp2, Value.agg #[.int .i64 0, .bool false, .int .i64 0]]) (by simp [results, Tryz.results7, go_sem, q0, q1, q2]) rfl ⟨(rx_ok HE.out HAcc.out (own_bs (own_set3 HO9.out HRl.out) (Nat.le_trans HBw.out.size HB10.out.2))), bel3 (HBw.out.trans (HB9.out.mono HBw.out.size)) HRR.out⟩
end Go.Proofs.YtaekccgcnlepaaaGreatDoor
namespace Go.Proofs.YtaekccgcnlepaaaGreatDoor
open Go.ChangeShapes Go.WideShapes Go.ChangeAt Go.RowKit Go.Maps
set_option linter.unusedVariables false
set_option linter.unusedSimpArgs false
set_option maxRecDepth 100000 in
set_option maxHeartbeats 4000000 in
theorem rshow_is (u : Nat) (hu : u < 4294967296) (s : ByteArray) (hs : Hid (showW (u : Int) = s)) (w : World) (hT : Tells w) :
    Calls Tryz.prog 11 #[.int .u32 (u : Int)] w fun e w' => e = .returned (.string s) ∧ Below w.heap.size w w' := by
  have HT := Lib.hid hT
  obtain ⟨d, hd⟩ : ∃ d : ByteArray, d = ⟨(Lib.decDigits u).toArray⟩ := ⟨_, rfl⟩
  have hds : d.size ≤ 20 := by
    have := dec_size u (by omega)
    unfold decS at this
    rw [Int.toNat_natCast] at this
    rw [hd]; exact this
  obtain ⟨s1, hs1⟩ : ∃ s1, (⟨#[119, 111, 114, 100, 32]⟩ : ByteArray) ++ d = s1 := ⟨_, rfl⟩
  have f1 := cat_run ⟨#[119, 111, 114, 100, 32]⟩ d (by rw [show (⟨#[119, 111, 114, 100, 32]⟩ : ByteArray).size = 5 from rfl]; omega)
  rw [hs1] at f1
  have HS1 : Hid (s1 = wordS u) := Lib.hid (by
    rw [← hs1, hd]
    apply ByteArray.ext
    simp [wordS])
  have HD : Hid (d = ⟨(Lib.decDigits u).toArray⟩) := Lib.hid hd
  obtain ⟨p0, hp0⟩ : ∃ p, (u : Int) / 16777216 = p := ⟨_, rfl⟩
  obtain ⟨p1, hp1⟩ : ∃ p, (u : Int) / 1048576 % 16 = p := ⟨_, rfl⟩
  obtain ⟨p2, hp2⟩ : ∃ p, (u : Int) / 65536 % 16 = p := ⟨_, rfl⟩
  obtain ⟨p3, hp3⟩ : ∃ p, (u : Int) / 4096 % 16 = p := ⟨_, rfl⟩
  obtain ⟨p4, hp4⟩ : ∃ p, (u : Int) % 4096 = p := ⟨_, rfl⟩
  have HP : Hid (PartsC (u : Int) p0 p1 p2 p3 p4) := Lib.hid ⟨hp0, hp1, hp2, hp3, hp4⟩
  have HSh : Hid (showW (u : Int) = if okB p0 p1 p2 p3 p4 = true then textC p0 p1 p2 p3 p4 else wordS u) := Lib.hid (by
    unfold showW
    rw [hp0, hp1, hp2, hp3, hp4, Int.toNat_natCast])
  clear hT hd hs1 hp0 hp1 hp2 hp3 hp4 hds
  cases hok : okB p0 p1 p2 p3 p4
  · have HSh2 : Hid (s = s1) := Lib.hid (by rw [← hs.out, HSh.out, hok, if_neg (by simp), HS1.out])
    have HRd : Hid (∀ W, Calls Tryz.prog 26 #[.int .u32 (u : Int)] W fun e w' => e = .returned (.tuple #[Value.agg #[.int .i64 0, .int .i64 0, .int .i64 0, .int .i64 0, .int .i64 0], .bool false]) ∧ Below W.heap.size W w') := Lib.hid (fun W => refread_no (u : Int) p0 p1 p2 p3 p4 W (by omega) (by omega) HP (Lib.hid hok))
    obtain rfl := HSh2.out
    clear hok
    go_enter Tryz.func11, Tryz.ntmps11
    go_wp2_with (first
      | (go_at_call 26; (with_reducible refine (HRd.out _).mono ?_); rintro e w1 ⟨rfl, hb⟩; have HB1 := Lib.hid (hb.alloc hb.size (.cells #[.int .i64 0, .int .i64 0, .int .i64 0, .int .i64 0, .int .i64 0] 66)); clear hb)
      | (go_at_call 23; (with_reducible refine (fmtuint_any u (by omega) _ (HT.out.below HB1.out).tab).mono ?_); rw [← HD.out]; rintro e w3 ⟨rfl, hb⟩; have HB3 := Lib.hid (HB1.out.trans (hb.mono HB1.out.size)); clear hb))
    go_ret
    exact ⟨rfl, HB3.out⟩
  · obtain ⟨t2, ht2⟩ : ∃ t2, Hid (textC p0 p1 p2 p3 p4 = t2) := ⟨_, Lib.hid rfl⟩
    have HSh2 : Hid (s = t2) := Lib.hid (by rw [← hs.out, HSh.out, hok, if_pos rfl, ht2.out])
    have HOk := Lib.hid hok
    have HRd : Hid (∀ W, Calls Tryz.prog 26 #[.int .u32 (u : Int)] W fun e w' => e = .returned (.tuple #[Value.agg #[.int .i64 p0, .int .i64 p1, .int .i64 p2, .int .i64 p3, .int .i64 p4], .bool true]) ∧ Below W.heap.size W w') := Lib.hid (fun W => refread_ok (u : Int) p0 p1 p2 p3 p4 W (by omega) (by omega) HP HOk)
    obtain rfl := HSh2.out
    clear hok
    go_enter Tryz.func11, Tryz.ntmps11
    go_wp2_with (first
      | (go_at_call 26; (with_reducible refine (HRd.out _).mono ?_); rintro e w1 ⟨rfl, hb⟩; have HB1 := Lib.hid (hb.alloc hb.size (.cells #[.int .i64 p0, .int .i64 p1, .int .i64 p2, .int .i64 p3, .int .i64 p4] 66)); clear hb)
      | (go_at_call 27; (with_reducible refine (reftextC_right p0 p1 p2 p3 p4 _ (HT.out.below HB1.out) HOk s ht2).mono ?_); rintro e w3 ⟨rfl, hb⟩; have HB3 := Lib.hid (HB1.out.trans (hb.mono HB1.out.size)); clear hb))
    go_ret
    exact ⟨rfl, HB3.out⟩
/-- Few lines, and short: or not. -/
def LightP (t : Bool) (m : Nat) (ls : List ByteArray) : Prop := (t = true ∧ m ≤ 30 ∧ ∀ i, i < m → (ls.getD i ⟨#[]⟩).size ≤ 80) ∨ (t = false ∧ ¬ (m ≤ 30 ∧ ∀ i, i < m → (ls.getD i ⟨#[]⟩).size ≤ 80))
theorem LightP.no {t : Bool} {m : Nat} {ls : List ByteArray} (h : LightP t m ls) (hn : ¬ (m ≤ 30 ∧ ∀ i, i < m → (ls.getD i ⟨#[]⟩).size ≤ 80)) : t = false := by
  rcases h with ⟨_, h⟩ | ⟨h, _⟩
  · exact absurd h hn
  · exact h
theorem LightP.yes {t : Bool} {m : Nat} {ls : List ByteArray} (h : LightP t m ls) (hn : m ≤ 30 ∧ ∀ i, i < m → (ls.getD i ⟨#[]⟩).size ≤ 80) : t = true := by
  rcases h with ⟨h, _⟩ | ⟨_, h⟩
  · exact h
  · exact absurd hn h
set_option maxRecDepth 100000 in
set_option maxHeartbeats 2000000 in
theorem light_is (a : Option Addr) (c m : Nat) (ls : List ByteArray) (hm : Hid (ls.length = m)) (t : Bool) (ht : Hid (LightP t m ls)) (w : World) (hL : LsAt w a ls) :
    Calls Tryz.prog 5 #[.slice a m c, .int .i64 30] w fun e w' => e = .returned (.bool t) ∧ Below w.heap.size w w' := by
  have HL := Lib.hid hL
  clear hL
  by_cases h30 : 30 < m
  · have d0 : decide ((30 : Int) < (m : Int)) = true := by simp; omega
    obtain rfl : t = false := ht.out.no (fun e => by omega)
    clear h30
    go_enter Tryz.func5, Tryz.ntmps5
    go_wp2_with fail
    go_ret
    exact ⟨rfl, Below.refl _ _⟩
  have d0 : decide ((30 : Int) < (m : Int)) = false := by simp; omega
  have h31 : m ≤ 30 := by omega
  clear h30
  go_enter Tryz.func5, Tryz.ntmps5
  go_wp2_with fail
  go_loopw [5] (fun i wr => ∃ k : Nat, k ≤ m ∧ i = .int .i64 k ∧ (∀ q, q < k → (ls.getD q ⟨#[]⟩).size ≤ 80) ∧ Below w.heap.size w wr) (fun i _ => m - (intOf i).toNat)
  case atStart => exact ⟨0, by omega, rfl, fun q hq => by omega, Below.refl _ _⟩
  case round =>
    obtain ⟨k, hk, rfl, hall, hb⟩ := hrel
    have HB := Lib.hid hb
    have HA := Lib.hid hall
    by_cases hlt : k < m
    · obtain ⟨adl, rfl, h1, cl⟩ := (HL.out.below hb) k (by rw [hm.out]; exact hlt)
      obtain ⟨s, hs⟩ : ∃ s, ls.getD k ⟨#[]⟩ = s := ⟨_, rfl⟩
      rw [hs] at cl
      have HS := Lib.hid hs
      have k0 : (0 : Int) ≤ (k : Int) := by omega
      have k1 : (k : Int) < (m : Int) := by omega
      by_cases h8 : 80 < s.size
      · have d1 : decide ((80 : Int) < (s.size : Int)) = true := by simp; omega
        obtain rfl : t = false := ht.out.no (fun e => by have := e.2 k hlt; rw [hs] at this; omega)
        clear hall hb hs h1 h8
        go_wp2_with fail
        go_ret
        exact ⟨rfl, HB.out⟩
      · have d1 : decide ((80 : Int) < (s.size : Int)) = false := by simp; omega
        have HA2 : Hid (∀ q, q < k + 1 → (ls.getD q ⟨#[]⟩).size ≤ 80) := Lib.hid (fun q hq => by
          by_cases e : q = k
          · subst e; rw [hs]; omega
          · exact HA.out q (by omega))
        clear hall hb hs h1 h8
        go_wp2_with fail
        go_roundw
        case rel => exact ⟨k + 1, by omega, by go_num, HA2.out, HB.out⟩
        case measure => simp [intOf]; omega
    · obtain rfl : k = m := by omega
      have hdd : decide (k < k) = false := by simp
      obtain rfl : t = true := ht.out.yes ⟨h31, hall⟩
      clear hall hb hlt
      go_wp2_with fail
      go_ret
      exact ⟨rfl, HB.out⟩
theorem sg2 {w3 w w' : World} {g k : Nat} {p : Addr} {u v : Value} (h : Below w3.heap.size w3 w ∧ w.cell? ⟨g, k, none⟩ = some u ∧ w.cell? p = some v) (hg : Hid (g < w3.heap.size ∧ p.block < w3.heap.size)) (hb : Below w.heap.size w w') : Below w3.heap.size w3 w' ∧ w'.cell? ⟨g, k, none⟩ = some u ∧ w'.cell? p = some v :=
  ⟨h.1.trans (hb.mono h.1.size), (hb.cell (p := ⟨g, k, none⟩) (Nat.lt_of_lt_of_le hg.out.1 h.1.size)).trans h.2.1, (hb.cell (p := p) (Nat.lt_of_lt_of_le hg.out.2 h.1.size)).trans h.2.2⟩
theorem tx_len (F : LF) : ∀ (r : List ByteArray) (line : Nat) (acc : List Int), (txRun F line r acc).1.length ≤ acc.length + r.length := by
  intro r
  induction r with
  | nil => intro line acc; exact Nat.le_refl _
  | cons s r ih =>
    intro line acc
    rw [txRun]
    split
    · exact Nat.zero_le _
    · rename_i v t h
      have := ih (line + 1) (if t = true then acc ++ [v] else acc)
      refine Nat.le_trans this ?_
      split
      · simp; omega
      · simp
theorem fv0_ex (x : Option (Nat × Nat)) : ∃ c p n, fv0 x = Value.agg #[.int .i64 c, .bool p, .int .i64 n] := by
  cases x with
  | none => exact ⟨_, _, _, rfl⟩
  | some y => exact ⟨_, _, _, rfl⟩
set_option maxRecDepth 100000 in
set_option maxHeartbeats 8000000 in
theorem texts_any {A : Nat → Addr} (a0 : Option Addr) (cap0 m : Nat) (ls : List ByteArray) (hm : Hid (ls.length = m)) (a1 : Option Addr) (cap1 n : Nat) (xs : List Int) (hn : Hid (xs.length = n)) (hx : Hid (∀ i, i < n → 0 ≤ xs.getD i 0 ∧ xs.getD i 0 ≤ 4294967295)) (w : World) (hL : LsAt w a0 ls) (hR : RU w a1 xs) (hA : AsmAt A w) (hS : Sen A w) (hT : Tells w) :
    Calls Tryz.prog 3 #[.slice a0 m cap0, .slice a1 n cap1] w fun e w' => e = .returned (.bool true) ∧ Below w.heap.size w w' := by
  have HA := Lib.hid hA
  have HS := Lib.hid hS
  have HT := Lib.hid hT
  have HL := Lib.hid hL
  have HR := Lib.hid hR
  clear hA hS hT hL hR
  by_cases hH : m ≤ 30 ∧ ∀ i, i < m → (ls.getD i ⟨#[]⟩).size ≤ 80
  case neg =>
    have HLt : Hid (LightP false m ls) := Lib.hid (.inr ⟨rfl, hH⟩)
    clear hH
    go_enter Tryz.func3, Tryz.ntmps3
    go_wp2_with (first
      | (go_at_call 4; (with_reducible refine (afirst_is _ HA.out).mono ?_); rintro e w1 ⟨rfl, hb⟩; have HB1 := Lib.hid hb; clear hb)
      | (go_at_call 5; (with_reducible refine (light_is a0 cap0 m ls hm false HLt _ (HL.out.below HB1.out)).mono ?_); rintro e w2 ⟨rfl, hb⟩; have HB2 := Lib.hid (HB1.out.trans (hb.mono HB1.out.size)); clear hb))
    go_ret
    exact ⟨rfl, HB2.out⟩
  case pos =>
    have HLt : Hid (LightP true m ls) := Lib.hid (.inl ⟨rfl, hH⟩)
    have hm30 : m ≤ 30 := hH.1
    have HZ : Hid (∀ i, (ls.getD i ⟨#[]⟩).size ≤ 900) := Lib.hid (fun i => by
      by_cases hi : i < m
      · have := hH.2 i hi; omega
      · rw [List.getD_eq_getElem?_getD, List.getElem?_eq_none (by rw [hm.out]; omega)]
        exact Nat.zero_le _)
    clear hH
    by_cases h30 : 30 < n
    · have d0 : decide ((30 : Int) < (n : Int)) = true := by simp; omega
      clear h30
      go_enter Tryz.func3, Tryz.ntmps3
      go_wp2_with (first
        | (go_at_call 4; (with_reducible refine (afirst_is _ HA.out).mono ?_); rintro e w1 ⟨rfl, hb⟩; have HB1 := Lib.hid hb; clear hb)
        | (go_at_call 5; (with_reducible refine (light_is a0 cap0 m ls hm true HLt _ (HL.out.below HB1.out)).mono ?_); rintro e w2 ⟨rfl, hb⟩; have HB2 := Lib.hid (HB1.out.trans (hb.mono HB1.out.size)); clear hb))
      go_ret
      exact ⟨rfl, HB2.out⟩
    have d0 : decide ((30 : Int) < (n : Int)) = false := by simp; omega
    have hn30 : n ≤ 30 := by omega
    obtain ⟨X, hX⟩ : ∃ X, textV ls = X := ⟨_, rfl⟩
    obtain ⟨fc, fp, fn, hf⟩ := fv0_ex X.2
    have HF := Lib.hid hf
    have HTx : Hid (∀ W, AsmAt A W → LsAt W a0 ls → Calls Tryz.prog 6 #[.slice a0 m cap0] W fun e w' => TxOut A W w' X e ∧ Below W.heap.size W w') := Lib.hid (fun W h1 h2 => by rw [← hX]; exact text_is a0 cap0 m ls hm (by omega) HZ W h1 h2)
    have HRx : Hid (∀ W, LsAt W a0 ls → Calls Tryz.prog 7 #[.slice a0 m cap0] W fun e w' => RxOut W w' X e ∧ Below W.heap.size W w') := Lib.hid (fun W h2 => by rw [← hX]; exact rtext_is a0 cap0 m ls hm (by omega) HZ W h2)
    have HXv := Lib.hid hX
    obtain ⟨xr, xo⟩ := X
    clear h30 hX hf
    go_enter Tryz.func3, Tryz.ntmps3
    go_upto_region 8 with (first
      | (go_at_call 4; (with_reducible refine (afirst_is _ HA.out).mono ?_); rintro e w1 ⟨rfl, hb⟩; have HB1 := Lib.hid hb; clear hb)
      | (go_at_call 5; (with_reducible refine (light_is a0 cap0 m ls hm true HLt _ (HL.out.below HB1.out)).mono ?_); rintro e w2 ⟨rfl, hb⟩; have HB2 := Lib.hid (HB1.out.trans (hb.mono HB1.out.size)); clear hb)
      | (go_at_call 6; (with_reducible refine (HTx.out _ (HA.out.below HB2.out) (HL.out.below HB2.out)).mono ?_); rintro e w3 ⟨⟨ta, tn, tc, ve, rfl, htn, hto, hte⟩, hb⟩; have HB3 := Lib.hid (HB2.out.trans (hb.mono HB2.out.size)); have HTo := Lib.hid hto; have HTe := Lib.hid hte; have HTn := Lib.hid htn; clear hb hto hte htn)
      | (go_at_call 7; (with_reducible refine (HRx.out _ (HL.out.below HB3.out)).mono ?_); rintro e w4 ⟨⟨ra, rn, rc, rfl, hrn, hro⟩, hb⟩; rw [HF.out]; have HB4 := Lib.hid (HB3.out.trans (hb.mono HB3.out.size)); have HTo4 := Lib.hid (own_keep HTo.out hb); have HB34 := Lib.hid hb; have HRo := Lib.hid hro; obtain rfl : tn = rn := (by rw [← HTn.out]; exact hrn); clear hb hrn hro))
    generalize hA : World.alloc w4 _ = w5
    obtain ⟨P, hP⟩ : ∃ P, P = w4.heap.size := ⟨_, rfl⟩
    have HB45 : Hid (Below w4.heap.size w4 w5) := Lib.hid (by rw [← hA]; exact (Below.refl _ _).alloc (Nat.le_refl _) _)
    have z0 : w5.cell? ⟨P, 0, none⟩ = some (.int .i64 fc) := by rw [← hA, hP]; simp
    have z1 : w5.cell? ⟨P, 1, none⟩ = some (.bool fp) := by rw [← hA, hP]; simp
    have z2 : w5.cell? ⟨P, 2, none⟩ = some (.int .i64 fn) := by rw [← hA, hP]; simp
    rw [← hP]
    clear hP hA
    have HB5 := Lib.hid (HB4.out.trans (HB45.out.mono HB4.out.size))
    have HTo5 := Lib.hid (own_keep HTo4.out HB45.out)
    have HRo5 := Lib.hid (own_keep HRo.out HB45.out)
    have htn : tn ≤ 1000000 := by
      have h1 := tx_len (gaAll 0 (0, fun _ => none) ls).2 ls 0 []
      rw [show txRun (gaAll 0 (0, fun _ => none) ls).2 0 ls [] = textV ls from rfl, HXv.out, hm.out] at h1
      have h2 := HTn.out
      simp at h1 h2
      omega
    have HSm : Hid (∀ W, Below w5.heap.size w5 W → Calls Tryz.prog 8 #[ve, Value.agg #[.int .i64 fc, .bool fp, .int .i64 fn]] W fun e w' => e = .returned (.bool true) ∧ Below W.heap.size W w') := Lib.hid (fun W hW => by
      rcases HTe.out with ⟨h1, h2⟩ | ⟨k, er, p, h1, h2, h3, h4⟩
      · rw [show Value.agg #[.int .i64 fc, .bool fp, .int .i64 fn] = fv0 xo from HF.out.symm, h2]
        rw [show xo = none from h1]
        exact (same_any .nilIface 0 0 0 0 false false W (FaultIs.nil W)).mono fun e w' ⟨he, hb⟩ => ⟨by rw [he]; rfl, hb⟩
      · rw [show Value.agg #[.int .i64 fc, .bool fp, .int .i64 fn] = fv0 xo from HF.out.symm]
        rw [show xo = some (k, er) from h1]
        have hfi := (h4 (HS.out.below HB3.out)).later (HB34.out.trans ((HB45.out.trans (hW.mono HB45.out.size)).mono HB34.out.size))
        exact (same_any ve _ _ (101 + (er : Int)) (k : Int) true true W hfi).mono fun e w' ⟨he, hb⟩ => ⟨by rw [he]; simp [faultB], hb⟩)
    clear HTe HF HTx HRx
    go_upto_region 10 with (first
      | (go_at_call 8; (with_reducible refine (HSm.out _ (Below.refl _ _)).mono ?_); rintro e w6 ⟨rfl, hb⟩; have HB56 := Lib.hid hb; clear hb)
      | (go_at_call 9; (with_reducible refine (samewords_yes ta ra tc rc tn xr HTn htn _ (own_ru (own_keep HTo5.out HB56.out) HTn.out) (own_ru (own_keep HRo5.out HB56.out) HTn.out)).mono ?_); rintro e w7 ⟨rfl, hb⟩; have HB7 := Lib.hid (HB5.out.trans ((HB56.out.trans (hb.mono HB56.out.size)).mono HB5.out.size)); clear hb))
    go_upto_region 14 with (first
      | (go_at_call 10; (with_reducible refine (show_is a1 cap1 n xs hn (by omega) hx _ (HA.out.below HB7.out) (HT.out.below HB7.out) (HR.out.below HB7.out)).mono ?_); rintro e w8 ⟨sa, sc, rfl, hl⟩; have HB8 := Lib.hid (HB7.out.trans (hl.bel.mono HB7.out.size)); have HSr := Lib.hid (RowC.of (l := wsV (xs.map showW)) hl.row (by unfold wsV; rw [List.length_map]; exact hl.len)); clear hl))
    clear z0 z1 z2
    have HT8 := Lib.hid (HT.out.below HB8.out)
    have HR8 := Lib.hid (HR.out.below HB8.out)
    go_loopw [11] (fun i wr => ∃ k : Nat, k ≤ n ∧ i = .int .i64 k ∧ Below w8.heap.size w8 wr) (fun i _ => n - (intOf i).toNat)
    case atStart => exact ⟨0, by omega, rfl, Below.refl _ _⟩
    case round =>
      obtain ⟨k, hk, rfl, hb⟩ := hrel
      have HBk := Lib.hid hb
      by_cases hlt : k < n
      · have hkx : k < (xs.map showW).length := by rw [List.length_map, hn.out]; exact hlt
        obtain ⟨gs, rfl, hgs, hcs⟩ := HSr.out.word k hkx
        obtain ⟨adx, rfl, hax, hcx⟩ := HR8.out k (by rw [hn.out]; exact hlt)
        obtain ⟨hx0, hx1⟩ := hx.out k hlt
        obtain ⟨x, hxx⟩ : ∃ x, xs.getD k 0 = x := ⟨_, rfl⟩
        have hz : (xs.map showW).getD k ⟨#[]⟩ = showW x := by
          rw [← hxx]
          have : k < xs.length := by rw [hn.out]; exact hlt
          simp [List.getD, this]
        rw [hz] at hcs
        rw [hxx] at hcx hx0 hx1
        obtain ⟨u, rfl⟩ : ∃ u : Nat, x = u := ⟨x.toNat, by omega⟩
        have hu : u < 4294967296 := by omega
        obtain ⟨s, hs⟩ : ∃ s, showW (u : Int) = s := ⟨_, rfl⟩
        rw [hs] at hcs
        have HSh := Lib.hid hs
        have HG : Hid (gs < w8.heap.size ∧ (adx.add k).block < w8.heap.size) := Lib.hid ⟨hgs, by rw [add_blockL]; exact hax⟩
        have ST : Hid (Below w8.heap.size w8 wr.drew ∧ wr.drew.cell? ⟨gs, k, none⟩ = some (.string s) ∧ wr.drew.cell? (adx.add k) = some (.int .u32 (u : Int))) := Lib.hid ⟨hb.drew, (hb.cell (p := ⟨gs, k, none⟩) hgs).trans hcs, (hb.cell (p := adx.add k) HG.out.2).trans hcx⟩
        have k0 : (0 : Int) ≤ (k : Int) := by omega
        have k1 : (k : Int) < (n : Int) := by omega
        clear hb hgs hcs hax hcx hx0 hx1 hxx hz hkx hs
        go_wp2_with fail
        go_region_held3 (fun w' => Below w8.heap.size w8 w' ∧ w'.cell? ⟨gs, k, none⟩ = some (.string s) ∧ w'.cell? (adx.add k) = some (.int .u32 (u : Int))) (first | exact ST.out | exact sg2 (by assumption) HG hb) (first | (go_at_call 11; (with_reducible refine (rshow_is u hu s HSh _ (HT8.out.below (And.left (by assumption)))).mono ?_); rintro e w' ⟨rfl, hb⟩))
        have hS := Lib.hid (show Below w8.heap.size w8 _ from And.left (by assumption))
        go_wp2_with fail
        go_roundw
        case rel => exact ⟨k + 1, by omega, by go_num, hS.out⟩
        case measure => simp [intOf]; omega
      · obtain rfl : k = n := by omega
        have hdd : decide (k < k) = false := by simp
        clear hb hlt
        go_wp2_with fail
        go_ret
        exact ⟨rfl, HB8.out.trans (HBk.out.mono HB8.out.size)⟩
/-- A row of texts that came in. -/
theorem reads_ls {w : World} {a : Option Addr} {len cap : Nat} (h : Reads Tryz.prog w 22 [.slice a len cap]) : ∃ ls : List ByteArray, ls.length = len ∧ LsAt w a ls := by
  rcases h.slice Tryz.underlying22 with ⟨rfl, rfl, rfl⟩ | ⟨x, rfl, h1, h2, h3⟩
  · exact ⟨[], rfl, fun i hi => by cases hi⟩
  · have hc : Tryz.prog.cellsOf 9 = 1 := by kernel_rfl
    have key : ∀ i, i < len → ∃ s : ByteArray, w.cell? (x.add i) = some (.string s) := fun i hi => by
      obtain ⟨cs, c1, c2, c3⟩ := h3 i (by omega)
      obtain ⟨s, rfl, _⟩ := c3.string Tryz.underlying9
      have := c2 0 _ rfl
      rw [hc, Nat.mul_one, Nat.add_zero] at this
      exact ⟨s, this⟩
    refine ⟨(List.range len).map (fun i => match w.cell? (x.add i) with | some (.string s) => s | _ => ⟨#[]⟩), by simp, fun i hi => ?_⟩
    have hi2 : i < len := by simpa using hi
    obtain ⟨s, hs⟩ := key i hi2
    refine ⟨x, rfl, ?_, ?_⟩
    · have hl : (x.add i).block < w.heap.size := by
        rcases Nat.lt_or_ge (x.add i).block w.heap.size with h' | h'
        · exact h'
        · simp [World.cell?, Array.getElem?_eq_none h'] at hs
      rw [add_blockL] at hl
      exact hl
    · rw [hs]
      simp [List.getD, hi2, hs]
theorem walk_AsmTexts (a0 : Option Addr) (len0 cap0 : Nat) (a1 : Option Addr) (len1 cap1 : Nat) (z1 : List Int) (w : World) (w0 : Reads Tryz.prog w 22 [.slice a0 len0 cap0]) (w1 : IsRow .u32 w a1 len1 cap1 z1) (hL : laidMetH Tryz.prog Rows.asmTextsRow.laid w) :
    Calls Tryz.prog 3 #[.slice a0 len0 cap0, .slice a1 len1 cap1] w fun e w' => e = .returned (.bool true) ∧ Below w.heap.size w w' := by
  rw [MakeChecks.laidMetH_plain _ _ _ (by kernel_rfl)] at hL
  have hS := sen_of hL (by
    intro n hn
    simp only [List.mem_cons, List.not_mem_nil, or_false] at hn
    rcases hn with rfl | rfl | rfl | rfl | rfl | rfl | rfl | rfl | rfl | rfl | rfl | rfl <;> exact ⟨_, by repeat (first | exact List.Mem.head _ | apply List.Mem.tail)⟩)
  have hC := code_of hL ⟨_, by repeat (first | exact List.Mem.head _ | apply List.Mem.tail)⟩ ⟨_, by repeat (first | exact List.Mem.head _ | apply List.Mem.tail)⟩ (by repeat (first | exact List.Mem.head _ | apply List.Mem.tail))
  have hT := tells_of hL (by repeat (first | exact List.Mem.head _ | apply List.Mem.tail)) (by repeat (first | exact List.Mem.head _ | apply List.Mem.tail)) (by repeat (first | exact List.Mem.head _ | apply List.Mem.tail))
  obtain ⟨ls, h1, h2⟩ := reads_ls w0
  obtain ⟨r1, r2, r3⟩ := row_ru w1
  exact texts_any a0 cap0 len0 ls (Lib.hid h1) a1 cap1 len1 _ (Lib.hid r2) (Lib.hid r3) w h2 r1 (asm_of hL (Sen5.of hS) hC (by repeat (first | exact List.Mem.head _ | apply List.Mem.tail)) (by repeat (first | exact List.Mem.head _ | apply List.Mem.tail)) (by repeat (first | exact List.Mem.head _ | apply List.Mem.tail))) hS hT
end Go.Proofs.YtaekccgcnlepaaaGreatDoor
