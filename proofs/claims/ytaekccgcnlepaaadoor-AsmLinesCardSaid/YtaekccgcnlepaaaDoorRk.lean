/-
  turnkeyref1.AsmLine says what lineV says, of any line; chapter 15: AsmLines.
-/
import Derived.Test.YtaekccgcnlepaaaDoorRj
namespace Go.Proofs.YtaekccgcnlepaaaDoor
open Go.ChangeShapes Go.WideShapes Go.ChangeAt Go.RowKit Go.Maps
set_option linter.unusedVariables false
set_option linter.unusedSimpArgs false
/-- The operands ahead of the first that does not read; or all of them. -/
theorem first_bad (f : Nat → Option Nat) : ∀ L, (∀ j, j < L → f j = some ((f j).getD 0)) ∨ ∃ i, i < L ∧ (∀ j, j < i → f j = some ((f j).getD 0)) ∧ f i = none := by
  intro L
  induction L with
  | zero => exact .inl (fun j hj => by omega)
  | succ L ih =>
    rcases ih with h | ⟨i, hi, h1, h2⟩
    · cases hq : f L with
      | none => exact .inr ⟨L, by omega, h, hq⟩
      | some y =>
        refine .inl (fun j hj => ?_)
        by_cases e : j = L
        · subst e; rw [hq]; rfl
        · exact h j (by omega)
    · exact .inr ⟨i, by omega, h1, h2⟩
theorem ins_13 (op : Nat) (h3 : op ≠ 3) (h11 : op ≠ 11) (s1 s2 v0 v1 v2 : Int) : insR op s1 v0 v1 v2 = insR op s2 v0 v1 v2 := by
  unfold insR
  rw [if_neg h3, if_neg h11, if_neg h3, if_neg h11]
theorem end_code (I : Int × Int × Int × Int × Int) : (endR I).2 = none ∨ (endR I).2 = some 2 := by
  unfold endR
  split
  · exact .inl rfl
  · exact .inr rfl
def CodeO (o : Option Nat) : Prop := o = none ∨ o = some 2 ∨ o = some 10 ∨ o = some 11
theorem codeO_end (I : Int × Int × Int × Int × Int) : CodeO (endR I).2 := by
  rcases end_code I with h | h
  · exact .inl h
  · exact .inr (.inl h)
theorem line_code (s : ByteArray) : CodeO (lineV s).2 := by
  obtain ⟨op, hop⟩ : ∃ op, opW (tokB s) = op := ⟨_, rfl⟩
  have h13 : op ≤ 13 := by rw [← hop]; exact opW_le _
  by_cases h0 : op = 0 ∨ (tokB s).length ≠ 1 + (aWd.getD op []).length
  · rw [line_word s op hop h0]; exact .inr (.inr (.inl rfl))
  · have hk := kd_len ⟨op, by omega⟩ (by simp only; omega)
    simp only at hk
    have hl : (tokB s).length = atV op + (kdL.getD op []).length := by omega
    have main : ∀ sec, secOk op (tokB s) sec → CodeO (lineV s).2 := fun sec hs => by
      rcases first_bad (opdW op (tokB s)) (kdL.getD op []).length with h | ⟨i, hi, h1, h2⟩
      · rw [line_good s op (by omega) h13 hop hl sec hs (fun j => (opdW op (tokB s) j).getD 0) h]
        exact codeO_end _
      · rw [line_bad s op (by omega) h13 hop hl sec hs (fun j => (opdW op (tokB s) j).getD 0) i hi h1 h2]
        exact .inr (.inr (.inr rfl))
    by_cases h3 : op = 3
    · subst h3
      cases hq : idxL wNm ((tokB s).getD 1 ⟨#[]⟩).data.toList with
      | none => rw [line_second s 3 hop (.inl ⟨rfl, hq⟩)]; exact .inr (.inr (.inl rfl))
      | some sec => exact main sec ⟨fun _ => hq, fun e => by cases e⟩
    by_cases h11 : op = 11
    · subst h11
      cases hq : idxL mNm ((tokB s).getD 1 ⟨#[]⟩).data.toList with
      | none => rw [line_second s 11 hop (.inr ⟨rfl, hq⟩)]; exact .inr (.inr (.inl rfl))
      | some sec => exact main sec ⟨fun e => (by cases e), fun _ => hq⟩
    · exact main 0 ⟨fun e => absurd e h3, fun e => absurd e h11⟩
/-- The document's AsmLine, of any line. -/
theorem rasm_is (s : ByteArray) (hs : s.size ≤ 900) (X : (Int × Int × Int × Int × Int) × Option Nat) (hX : Hid (lineV s = X)) (w : World) : Calls Tryd.prog 9 #[.string s] w fun e w' => e = .returned (.tuple #[(.agg #[.int .i64 X.1.1, .int .i64 X.1.2.1, .int .i64 X.1.2.2.1, .int .i64 X.1.2.2.2.1, .int .i64 X.1.2.2.2.2]), .int .i64 (codR X.2)]) ∧ Below w.heap.size w w' := by
  obtain ⟨n, HN⟩ : ∃ n, Hid ((tokB s).length = n) := ⟨_, Lib.hid rfl⟩
  have hn1 : n ≤ 1000 := by rw [← HN.out]; exact Nat.le_trans (tok_count s) (by omega)
  obtain ⟨op, hop⟩ : ∃ op, opW (tokB s) = op := ⟨_, rfl⟩
  have h13 : op ≤ 13 := by rw [← hop]; exact opW_le _
  by_cases hn0 : n = 0
  · have ht : tokB s = [] := List.length_eq_zero_iff.1 (by rw [HN.out]; exact hn0)
    have h0 : op = 0 := by rw [← hop, ht]; rfl
    obtain rfl : X = ((0, 0, 0, 0, 0), some 10) := by rw [← hX.out]; exact line_word s op hop (.inl h0)
    exact rasm_none s hs ht w
  by_cases h3 : op = 3
  · subst h3; exact rasm_3 s hs n HN (by omega) hn1 (Lib.hid hop) X hX w
  by_cases h11 : op = 11
  · subst h11; exact rasm_11 s hs n HN (by omega) hn1 (Lib.hid hop) X hX w
  have hat : atV op = 1 := atV_1 op h3 h11
  by_cases hc : op = 0 ∨ n ≠ 1 + (kdL.getD op []).length
  · obtain rfl : X = ((0, 0, 0, 0, 0), some 10) := by
      rw [← hX.out]
      refine line_word s op hop ?_
      by_cases h0 : op = 0
      · exact .inl h0
      · have hk := kd_len ⟨op, by omega⟩ (by simp only; omega)
        simp only at hk
        have hN := HN.out
        exact .inr (by omega)
    exact rasm_cnt s hs n op HN (by omega) hn1 (Lib.hid hop) h3 h11 h13 hc w
  have hN := HN.out
  have hl : (tokB s).length = atV op + (kdL.getD op []).length := by omega
  have hs0 : secOk op (tokB s) 0 := ⟨fun e => absurd e h3, fun e => absurd e h11⟩
  rcases first_bad (opdW op (tokB s)) (kdL.getD op []).length with h | ⟨i, hi, h1, h2⟩
  · exact rasm_good s hs n op HN (by omega) hn1 (Lib.hid hop) h3 h11 (by omega) h13 (by omega) (fun j => (opdW op (tokB s) j).getD 0) h X (Lib.hid ((line_good s op (by omega) h13 hop hl 0 hs0 (fun j => (opdW op (tokB s) j).getD 0) h).symm.trans hX.out)) w
  · obtain rfl : X = ((0, 0, 0, 0, 0), some 11) := by
      rw [← hX.out]
      exact line_bad s op (by omega) h13 hop hl 0 hs0 (fun j => (opdW op (tokB s) j).getD 0) i hi h1 h2
    exact rasm_bad s hs n op HN (by omega) hn1 (Lib.hid hop) h3 h11 (by omega) h13 (by omega) i hi (fun j => (opdW op (tokB s) j).getD 0) h1 h2 w
theorem is_line {A : Nat → Addr} (o : Option Nat) (h : CodeO o) (w : World) (hS : Sen A w) :
    Calls Tryd.prog 10 #[erV A o, .int .i64 (codR o)] w fun e w' => e = .returned (.bool true) ∧ Below w.heap.size w w' := by
  rcases h with rfl | rfl | rfl | rfl
  · exact (is_any .nilIface 0 0 0 false w (FaultIs.nil w)).mono fun e w' ⟨he, hb⟩ => ⟨by rw [he]; rfl, hb⟩
  · exact is_sen A 2 103 (by decide) (Lib.hid rfl) w hS
  · exact is_sen A 10 111 (by decide) (Lib.hid rfl) w hS
  · exact is_sen A 11 112 (by decide) (Lib.hid rfl) w hS
def z5 (a0 a1 a2 a3 a4 : Int) (t : TypeId) : Obj := .cells #[.int .i64 a0, .int .i64 a1, .int .i64 a2, .int .i64 a3, .int .i64 a4] t
set_option maxRecDepth 100000 in
set_option maxHeartbeats 4000000 in
theorem lines_any {A : Nat → Addr} (s : ByteArray) (w : World) (hA : AsmAt A w) (hS : Sen A w) :
    Calls Tryd.prog 3 #[.string s] w fun e w' => e = .returned (.bool true) ∧ Below w.heap.size w w' := by
  have HA := Lib.hid hA
  have HS := Lib.hid hS
  by_cases h80 : 80 < s.size
  · have d1 : decide ((80 : Int) < (s.size : Int)) = true := by simp; omega
    clear hA hS h80
    go_enter Tryd.func3, Tryd.ntmps3
    go_wp2_with (first
      | (go_at_call 7; (with_reducible refine (afirst_is _ HA.out).mono ?_); rintro e w1 ⟨rfl, hb⟩))
    go_ret
    exact ⟨rfl, hb⟩
  have hs : s.size ≤ 900 := by omega
  have d1 : decide ((80 : Int) < (s.size : Int)) = false := by simp; omega
  obtain ⟨X, hX⟩ : ∃ X, lineV s = X := ⟨_, rfl⟩
  have HC : Hid (CodeO X.2) := Lib.hid (by rw [← hX]; exact line_code s)
  have HX := Lib.hid hX
  obtain ⟨⟨a0, a1, a2, a3, a4⟩, o⟩ := X
  have HLn : Hid (∀ W, AsmAt A W → Calls Tryd.prog 8 #[.string s] W fun e w' => e = .returned (.tuple #[.agg #[.int .i64 a0, .int .i64 a1, .int .i64 a2, .int .i64 a3, .int .i64 a4], erV A o]) ∧ Below W.heap.size W w') := Lib.hid (fun W hW => line_is s hs _ HX W hW)
  obtain ⟨c, hc⟩ : ∃ c, codR o = c := ⟨_, rfl⟩
  obtain ⟨er, her⟩ : ∃ er, erV A o = er := ⟨_, rfl⟩
  have HRa : Hid (∀ W, Calls Tryd.prog 9 #[.string s] W fun e w' => e = .returned (.tuple #[.agg #[.int .i64 a0, .int .i64 a1, .int .i64 a2, .int .i64 a3, .int .i64 a4], .int .i64 c]) ∧ Below W.heap.size W w') := Lib.hid (fun W => by rw [← hc]; exact rasm_is s hs _ HX W)
  have HIs : Hid (∀ W, Sen A W → Calls Tryd.prog 10 #[er, .int .i64 c] W fun e w' => e = .returned (.bool true) ∧ Below W.heap.size W w') := Lib.hid (fun W hW => by rw [← hc, ← her]; exact is_line o HC.out W hW)
  rw [her] at HLn
  clear hA hS h80 hX hc her
  go_enter Tryd.func3, Tryd.ntmps3
  go_upto_region 8 with (first
    | (go_at_call 7; (with_reducible refine (afirst_is _ HA.out).mono ?_); rintro e w1 ⟨rfl, hb⟩; have HB1 := Lib.hid hb; clear hb)
    | (go_at_call 8; (with_reducible refine (HLn.out _ (HA.out.below HB1.out)).mono ?_); rintro e w2 ⟨rfl, hb⟩; have HB2 := Lib.hid (HB1.out.trans (hb.mono HB1.out.size)); have HI2 := Lib.hid (I5.new w2 24 a0 a1 a2 a3 a4); have HB2a := Lib.hid (HB2.out.alloc HB2.out.size (z5 a0 a1 a2 a3 a4 24)); clear hb)
    | (go_at_call 9; (with_reducible refine (HRa.out _).mono ?_); rintro e w3 ⟨rfl, hb⟩; have HB3 := Lib.hid (HB2a.out.trans (hb.mono HB2a.out.size)); have HI3 := Lib.hid (HI2.out.below hb); have HJ3 := Lib.hid (I5.new w3 29 a0 a1 a2 a3 a4); have HB3a := Lib.hid (HB3.out.alloc HB3.out.size (z5 a0 a1 a2 a3 a4 29)); have HI3a := Lib.hid (HI3.out.below ((Below.refl _ _).alloc (Nat.le_refl _) (z5 a0 a1 a2 a3 a4 29))); clear hb))
  obtain ⟨P, hP⟩ : ∃ P, P = w2.heap.size := ⟨_, rfl⟩
  obtain ⟨Q, hQ⟩ : ∃ Q, Q = w3.heap.size := ⟨_, rfl⟩
  generalize hW : World.alloc w3 _ = w4
  have HI4 : Hid (I5 w4 P a0 a1 a2 a3 a4) := Lib.hid (by rw [← hW, hP]; exact HI3a.out)
  have HJ4 : Hid (I5 w4 Q a0 a1 a2 a3 a4) := Lib.hid (by rw [← hW, hQ]; exact HJ3.out)
  have HB4 : Hid (Below w.heap.size w w4) := Lib.hid (by rw [← hW]; exact HB3a.out)
  rw [← hP, ← hQ]
  clear hP hQ hW HI3 HJ3 HI3a HI2 HB3a HB2a
  go_wp2_with (first
    | (go_at_call 10; (with_reducible refine (HIs.out _ (HS.out.below HB4.out)).mono ?_); rintro e w5 ⟨rfl, hb⟩; have HB5 := Lib.hid (HB4.out.trans (hb.mono HB4.out.size)); have HI5 := Lib.hid (HI4.out.below hb); have HJ5 := Lib.hid (HJ4.out.below hb); clear hb; have p0 := HI5.out.c0; have p1 := HI5.out.c1; have p2 := HI5.out.c2; have p3 := HI5.out.c3; have p4 := HI5.out.c4; have q0 := HJ5.out.c0; have q1 := HJ5.out.c1; have q2 := HJ5.out.c2; have q3 := HJ5.out.c3; have q4 := HJ5.out.c4))
  go_ret
  exact ⟨rfl, HB5.out⟩
theorem walk_AsmLines (a0 : ByteArray) (w : World) (w0 : a0.size ≤ maxLen) (hL : laidMetH Tryd.prog Rows.asmLinesRow.laid w) :
    Calls Tryd.prog 3 #[.string a0] w fun e w' => e = .returned (.bool true) ∧ Below w.heap.size w w' := by
  rw [MakeChecks.laidMetH_plain _ _ _ (by kernel_rfl)] at hL
  have hS := sen_of hL (by
    intro n hn
    simp only [List.mem_cons, List.not_mem_nil, or_false] at hn
    rcases hn with rfl | rfl | rfl | rfl | rfl | rfl | rfl | rfl | rfl | rfl | rfl | rfl <;> exact ⟨_, by repeat (first | exact List.Mem.head _ | apply List.Mem.tail)⟩)
  have hC := code_of hL ⟨_, by repeat (first | exact List.Mem.head _ | apply List.Mem.tail)⟩ ⟨_, by repeat (first | exact List.Mem.head _ | apply List.Mem.tail)⟩ (by repeat (first | exact List.Mem.head _ | apply List.Mem.tail))
  exact lines_any a0 w (asm_of hL (Sen5.of hS) hC (by repeat (first | exact List.Mem.head _ | apply List.Mem.tail)) (by repeat (first | exact List.Mem.head _ | apply List.Mem.tail)) (by repeat (first | exact List.Mem.head _ | apply List.Mem.tail))) hS
end Go.Proofs.YtaekccgcnlepaaaDoor
