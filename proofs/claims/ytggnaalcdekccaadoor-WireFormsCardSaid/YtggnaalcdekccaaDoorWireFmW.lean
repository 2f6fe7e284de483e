import Derived.Test.YtggnaalcdekccaaDoorWireFm
namespace Go.Proofs.YtggnaalcdekccaaDoor
open Go.ChangeShapes Go.WideShapes Go.ChangeAt Go.RowKit
set_option linter.unusedVariables false
set_option maxRecDepth 100000 in
set_option maxHeartbeats 4000000 in
theorem forms_any (A : Nat → Addr) (a0 a1 : Int) (w : World) (hA : Sen A w) (r0 : -9223372036854775808 ≤ a0 ∧ a0 ≤ 9223372036854775807) (r1 : -9223372036854775808 ≤ a1 ∧ a1 ≤ 9223372036854775807) :
    Calls Tryd.prog 4 #[.int .i64 a0, .int .i64 a1] w fun e w' => e = .returned (.bool true) ∧ Below w.heap.size w w' := by
  have HR := Lib.hid r0
  have HR1 := Lib.hid r1
  clear r0 r1
  have HK : WL A w w := ⟨Below.refl _ _, hA⟩
  clear hA
  have hle : (encs [a0]).length ≤ 10 := by have := encs_len [a0] (by simp; exact HR.out); simpa using this
  have hle1 : (encs [a1]).length ≤ 10 := by have := encs_len [a1] (by simp; exact HR1.out); simpa using this
  have hpos : 0 < (encs [a0]).length := by rw [encs_one]; exact List.length_pos_iff.2 (enc_ne _)
  have hpos1 : 0 < (encs [a1]).length := by rw [encs_one]; exact List.length_pos_iff.2 (enc_ne _)
  go_enter Tryd.func4, Tryd.ntmps4
  go_wp2_with fail
  refine (wfirst_any _).mono ?_
  rintro e w1 ⟨rfl, hb1⟩
  have HK1 := HK.step hb1
  clear hb1
  go_wp2_with fail
  refine (put_nil_out (some ⟨w1.heap.size, 0, none⟩) 0 1 1 [a0] _ rfl (by simp) (srcL_one w1 a0 _ HR.out)).mono ?_
  rintro e w2 ⟨ab, cb, rfl, hs2, ha2, hc2a, hc2b, hb2⟩
  have HK2 := (HK1.alloc _).step hb2
  have HS2 := Lib.hid hs2
  have hab : ∀ ad, ab = some ad → ad.block < w2.heap.size := fun ad h => (ha2 ad h).2
  have HAB := Lib.hid hab
  clear hs2 ha2 hb2 HK1 hab
  have hcb : cb ≤ 9223372036854775807 := by unfold maxLen at hc2b; exact hc2b
  clear hc2b
  go_wp2_with fail
  refine (put_nil_out (some ⟨w2.heap.size, 0, none⟩) 0 1 1 [a1] _ rfl (by simp) (srcL_one w2 a1 _ HR1.out)).mono ?_
  rintro e w3 ⟨ab3, cb3, rfl, hs3, ha3, hc3a, hc3b, hb3⟩
  have hb23 : Below w2.heap.size w2 w3 := by
    have := ((Below.refl w2.heap.size w2).alloc (Nat.le_refl _) (.cells #[.int .i64 a1] 2)).trans (hb3.mono (by simp))
    exact this
  have HK3 := HK2.step hb23
  have HS3 := Lib.hid hs3
  have HSA3 := Lib.hid (HS2.out.below hb23 HAB.out)
  clear hs3 ha3 hb3
  have hcb3 : cb3 ≤ 9223372036854775807 := by unfold maxLen at hc3b; exact hc3b
  clear hc3b
  obtain ⟨bd, rfl⟩ : ∃ x, ab3 = some x := by
    cases ab3 with
    | none => have := HS3.out.2.1 rfl; rw [this] at hpos1; simp at hpos1
    | some x => exact ⟨x, rfl⟩
  have z0 : (((encs [a0]).length : Int) == 0) = false := beq_eq_false_iff_ne.2 (by omega)
  have z1 : (((encs [a1]).length : Int) == 0) = false := beq_eq_false_iff_ne.2 (by omega)
  have z2 : decide (10 < ((encs [a0]).length : Int)) = false := by simp; omega
  rcases (show a0 = a1 ∨ (a0 ≠ a1 ∧ (encs [a1]).length < (encs [a0]).length) ∨ (a0 ≠ a1 ∧ (encs [a0]).length ≤ (encs [a1]).length) by omega) with h1 | ⟨h1, h2⟩ | ⟨h1, h2⟩
  case inl =>
    have hne : (a0 != a1) = false := by simp [h1]
    have H1 := Lib.hid h1
    clear h1
    have HSAt := HSA3
    have HKt := HK3
    have HW3 : Below w3.heap.size w3 w3 := Below.refl _ _
    go_wp2_with fail
    refine (bytes_any ab cb (encs [a0]) _ (by omega) HSAt.out).mono ?_
    rintro e w5 ⟨v5, rfl, hown5, hb5⟩
    rcases hown5.2 with ⟨_, hz⟩ | ⟨g, c5, cur, rfl, hg0', hgh, hg1, hg2, hg3, hg4⟩
    case inl => omega
    have hg0 : w3.heap.size ≤ g := Nat.le_trans HW3.size hg0'
    replace hown5 := hown5.base w3.heap.size HW3.size
    have HO5 := Lib.hid hown5
    have HB5x : Below w3.heap.size w3 w5 := HW3.trans (hb5.mono HW3.size)
    have hg2' : c5 ≤ 9223372036854775807 := by unfold maxLen at hg2; exact hg2
    have hs5 : w3.heap.size ≤ w5.heap.size := HB5x.size
    obtain ⟨m, hm⟩ : ∃ m, (encs [a0]).length = m + 1 := ⟨(encs [a0]).length - 1, by omega⟩
    obtain ⟨hc, hf⟩ := own_get hown5 m (by omega)
    have hl128 : (encs [a0]).getD m 0 < 128 := by
      have := enc_last (zig a0) _ (Nat.le_refl _)
      rw [← encs_one, hm] at this
      exact this
    have EO := or128s _ hl128
    have hst := hown5.stored m (.int .u8 (((encs [a0]).getD m 0 + 128 : Nat) : Int))
    have hex : ∀ y ∈ brk (zig a0), y < 256 := brk_byte _
    have hbl : (brk (zig a0)).length = m + 1 + 1 := by rw [brk_len, ← encs_one, hm]
    have hcells : (brk (zig a0)).map bc = ((encs [a0]).map bc).set m (.int .u8 (((encs [a0]).getD m 0 + 128 : Nat) : Int)) ++ [.int .u8 0] := by
      have := brk_cells (zig a0)
      rw [← encs_one, hm] at this
      exact this
    generalize (encs [a0]).getD m 0 = x at hc EO hst hcells
    rw [hm] at hst
    rw [show ((x + 128 : Nat) : Int) = (x : Int) + 128 from rfl] at EO hst hcells
    have HEX := Lib.hid hex
    have HCE := Lib.hid hcells
    have HBL := Lib.hid hbl
    have HO6 := Lib.hid hst.1
    have hb6 : Below w3.heap.size w3 (w5.setCell ⟨g, m, none⟩ (.int .u8 ((x : Int) + 128))) := HB5x.grown hst.2 HB5x.size (fun k hk => by obtain rfl := Option.some.inj hk; omega)
    obtain ⟨i0, hi, hz0, hz1, hz2⟩ := info_parts infoByte
    have HI := Lib.hid (⟨hi, hz0, hz1, hz2⟩ : Tryd.prog.info? 5 = some i0 ∧ i0.zero = some (.int .u8 0) ∧ i0.size = 1 ∧ i0.bytes = 1)
    have HB6 := Lib.hid hb6
    clear hown5 hb5 HW3 hgh hg3 hg4 hg2 hl128 hst hex hcells hbl hb6 hi hz0 hz1 hz2 HB5x HO5
    go_wp2_with (first | (at_builtin; refine wpList_append_own _ rfl _ _ 22 rfl w3.heap.size 5 i0 (.int .u8 0) 1 1 Tryd.underlying22 HI.out.1 HI.out.2.1 HI.out.2.2.1 HI.out.2.2.2 rfl (by decide) _ _ _ rfl (HO6.out.alloc _) _ 1 1 [.int .u8 0] rfl rfl ?c1 ?c2 ?c3 ?c4 ?c5 ?_))
    case c1 =>
      intro j u hj
      match j, hj with
      | 0, hj => simp at hj; subst hj; exact set_alloc_cell w5 _ _ _ _
      | (j + 1), hj => simp at hj
    case c2 => intro u hu; simp at hu; subst hu; rfl
    case c3 => unfold maxLen; omega
    case c4 => omega
    case c5 => simp; omega
    intro v7 w7 hown7 hgrow7 _
    have HX : Hid (w7.ownsRow w3.heap.size 5 1 v7 (m + 1 + 1) ((brk (zig a0)).map bc)) := Lib.hid (by rw [HCE.out]; exact hown7)
    have hb7 : Below w3.heap.size w3 w7 := own_grown2 (HB6.out.alloc HB6.out.size _) (by simp; omega) (HO6.out.alloc _) hgrow7 rfl
    have HK7 := HK3.step hb7
    clear hown7 hgrow7 hb7 HKt HK3
    go_wp2_with fail
    refine (nr_own w3.heap.size _ v7 (brk (zig a0)) _ HX.out HEX.out (by rw [HBL.out]; omega)).mono ?_
    rintro e w8 ⟨p, gg, rfl, hrd, hp, hg, hb8⟩
    have HB8 := Lib.hid hb8
    have HRD := Lib.hid hrd
    clear hrd hb8 HX
    go_wp2_with fail
    refine (rd_num_bad HRD.out (by rw [HBL.out]; omega) (Nat.zero_le _) (c := 2) (.inr ⟨rfl, rfl⟩) (by rw [List.drop_zero]; exact pars_brk _ _ _ _ (Nat.le_refl _)) _ _ (sA A 1) ((HK7.step HB8.out).sen.cell 1 (by decide)).1).mono ?_
    rintro e w9 ⟨rfl, ⟨q, hrd9, hq, hq0, hq1⟩, hg9⟩
    obtain ⟨HK9, hb9⟩ := HK7.own HB8.out hp hg9
    have HRD9 := Lib.hid hrd9
    have HF : FaultIs (Value.iface 76 (.pointer (some ⟨q, 0, none⟩))) (101 + ((1 : Nat) : Int)) 0 true w9 := FaultIs.at HK9.sen 1 (by decide) 0 q ⟨hq, hq0, hq1⟩
    have HFF := Lib.hid HF
    clear hrd9 hg9 hb9 hq hq0 hq1 HF
    go_wp2_with (first | (go_at_call 20; refine (rd_err HRD9.out).mono ?_; rintro e w10 ⟨rfl, rfl⟩) | (go_at_call 23; refine (rd_at (HRD9.out.below (hb11.trans (hb12.mono hb11.size)) HRD9.out.lp HRD9.out.lg)).mono ?_; rintro e w10 ⟨rfl, rfl⟩) | (go_at_call 22; refine (placed_is 102 0 (by decide) _).mono ?_; rintro e w11 ⟨rfl, hb11⟩) | (go_at_call 21; refine (same_any _ _ _ _ _ _ _ _ (HFF.out.later hb11)).mono ?_; rintro e w12 ⟨rfl, hb12⟩))
    go_ret
    refine ⟨?_, ((HK9.step hb11).step hb12).bel⟩
    simp
  case inr.inl =>
    have hne : (a0 != a1) = true := by simp [h1]
    have hnl : decide (((encs [a0]).length : Int) ≤ ((encs [a1]).length : Int)) = false := by simp; omega
    have H1 := Lib.hid h1
    clear h1
    have HSAt := HSA3
    have HKt := HK3
    have HW3 : Below w3.heap.size w3 w3 := Below.refl _ _
    go_wp2_with fail
    refine (bytes_any ab cb (encs [a0]) _ (by omega) HSAt.out).mono ?_
    rintro e w5 ⟨v5, rfl, hown5, hb5⟩
    rcases hown5.2 with ⟨_, hz⟩ | ⟨g, c5, cur, rfl, hg0', hgh, hg1, hg2, hg3, hg4⟩
    case inl => omega
    have hg0 : w3.heap.size ≤ g := Nat.le_trans HW3.size hg0'
    replace hown5 := hown5.base w3.heap.size HW3.size
    have HO5 := Lib.hid hown5
    have HB5x : Below w3.heap.size w3 w5 := HW3.trans (hb5.mono HW3.size)
    have hg2' : c5 ≤ 9223372036854775807 := by unfold maxLen at hg2; exact hg2
    have hs5 : w3.heap.size ≤ w5.heap.size := HB5x.size
    obtain ⟨m, hm⟩ : ∃ m, (encs [a0]).length = m + 1 := ⟨(encs [a0]).length - 1, by omega⟩
    obtain ⟨hc, hf⟩ := own_get hown5 m (by omega)
    have hl128 : (encs [a0]).getD m 0 < 128 := by
      have := enc_last (zig a0) _ (Nat.le_refl _)
      rw [← encs_one, hm] at this
      exact this
    have EO := or128s _ hl128
    have hst := hown5.stored m (.int .u8 (((encs [a0]).getD m 0 + 128 : Nat) : Int))
    have hex : ∀ y ∈ brk (zig a0), y < 256 := brk_byte _
    have hbl : (brk (zig a0)).length = m + 1 + 1 := by rw [brk_len, ← encs_one, hm]
    have hcells : (brk (zig a0)).map bc = ((encs [a0]).map bc).set m (.int .u8 (((encs [a0]).getD m 0 + 128 : Nat) : Int)) ++ [.int .u8 0] := by
      have := brk_cells (zig a0)
      rw [← encs_one, hm] at this
      exact this
    generalize (encs [a0]).getD m 0 = x at hc EO hst hcells
    rw [hm] at hst
    rw [show ((x + 128 : Nat) : Int) = (x : Int) + 128 from rfl] at EO hst hcells
    have HEX := Lib.hid hex
    have HCE := Lib.hid hcells
    have HBL := Lib.hid hbl
    have HO6 := Lib.hid hst.1
    have hb6 : Below w3.heap.size w3 (w5.setCell ⟨g, m, none⟩ (.int .u8 ((x : Int) + 128))) := HB5x.grown hst.2 HB5x.size (fun k hk => by obtain rfl := Option.some.inj hk; omega)
    obtain ⟨i0, hi, hz0, hz1, hz2⟩ := info_parts infoByte
    have HI := Lib.hid (⟨hi, hz0, hz1, hz2⟩ : Tryd.prog.info? 5 = some i0 ∧ i0.zero = some (.int .u8 0) ∧ i0.size = 1 ∧ i0.bytes = 1)
    have HB6 := Lib.hid hb6
    clear hown5 hb5 HW3 hgh hg3 hg4 hg2 hl128 hst hex hcells hbl hb6 hi hz0 hz1 hz2 HB5x HO5
    go_wp2_with (first | (at_builtin; refine wpList_append_own _ rfl _ _ 22 rfl w3.heap.size 5 i0 (.int .u8 0) 1 1 Tryd.underlying22 HI.out.1 HI.out.2.1 HI.out.2.2.1 HI.out.2.2.2 rfl (by decide) _ _ _ rfl (HO6.out.alloc _) _ 1 1 [.int .u8 0] rfl rfl ?c1 ?c2 ?c3 ?c4 ?c5 ?_))
    case c1 =>
      intro j u hj
      match j, hj with
      | 0, hj => simp at hj; subst hj; exact set_alloc_cell w5 _ _ _ _
      | (j + 1), hj => simp at hj
    case c2 => intro u hu; simp at hu; subst hu; rfl
    case c3 => unfold maxLen; omega
    case c4 => omega
    case c5 => simp; omega
    intro v7 w7 hown7 hgrow7 _
    have HX : Hid (w7.ownsRow w3.heap.size 5 1 v7 (m + 1 + 1) ((brk (zig a0)).map bc)) := Lib.hid (by rw [HCE.out]; exact hown7)
    have hb7 : Below w3.heap.size w3 w7 := own_grown2 (HB6.out.alloc HB6.out.size _) (by simp; omega) (HO6.out.alloc _) hgrow7 rfl
    have HK7 := HK3.step hb7
    clear hown7 hgrow7 hb7 HKt HK3
    go_wp2_with fail
    refine (nr_own w3.heap.size _ v7 (brk (zig a0)) _ HX.out HEX.out (by rw [HBL.out]; omega)).mono ?_
    rintro e w8 ⟨p, gg, rfl, hrd, hp, hg, hb8⟩
    have HB8 := Lib.hid hb8
    have HRD := Lib.hid hrd
    clear hrd hb8 HX
    go_wp2_with fail
    refine (rd_num_bad HRD.out (by rw [HBL.out]; omega) (Nat.zero_le _) (c := 2) (.inr ⟨rfl, rfl⟩) (by rw [List.drop_zero]; exact pars_brk _ _ _ _ (Nat.le_refl _)) _ _ (sA A 1) ((HK7.step HB8.out).sen.cell 1 (by decide)).1).mono ?_
    rintro e w9 ⟨rfl, ⟨q, hrd9, hq, hq0, hq1⟩, hg9⟩
    obtain ⟨HK9, hb9⟩ := HK7.own HB8.out hp hg9
    have HRD9 := Lib.hid hrd9
    have HF : FaultIs (Value.iface 76 (.pointer (some ⟨q, 0, none⟩))) (101 + ((1 : Nat) : Int)) 0 true w9 := FaultIs.at HK9.sen 1 (by decide) 0 q ⟨hq, hq0, hq1⟩
    have HFF := Lib.hid HF
    clear hrd9 hg9 hb9 hq hq0 hq1 HF
    go_wp2_with (first | (go_at_call 20; refine (rd_err HRD9.out).mono ?_; rintro e w10 ⟨rfl, rfl⟩) | (go_at_call 23; refine (rd_at (HRD9.out.below (hb11.trans (hb12.mono hb11.size)) HRD9.out.lp HRD9.out.lg)).mono ?_; rintro e w10 ⟨rfl, rfl⟩) | (go_at_call 22; refine (placed_is 102 0 (by decide) _).mono ?_; rintro e w11 ⟨rfl, hb11⟩) | (go_at_call 21; refine (same_any _ _ _ _ _ _ _ _ (HFF.out.later hb11)).mono ?_; rintro e w12 ⟨rfl, hb12⟩))
    go_ret
    refine ⟨?_, ((HK9.step hb11).step hb12).bel⟩
    simp
  case inr.inr =>
    have hne : (a0 != a1) = true := by simp [h1]
    have hnl : decide (((encs [a0]).length : Int) ≤ ((encs [a1]).length : Int)) = true := by simp; omega
    have H1 := Lib.hid h1
    clear h1
    go_wp2_with fail
    refine (same_is2 ab _ cb cb3 _ _ (encs [a0]) ((encs [a1]).take (encs [a0]).length) false _ rfl (by simp; omega) (by simpa using enc_begins HR.out HR1.out H1.out) HSA3.out (HS3.out.take _ h2) (by omega) (by simp; omega)).mono ?_
    rintro e w4 ⟨rfl, hb4⟩
    have HSAt := Lib.hid (HSA3.out.below hb4 (fun ad h => Nat.lt_of_lt_of_le (HAB.out ad h) hb23.size))
    have HKt := HK3.step hb4
    have HW3 := hb4
    clear hb4
    go_wp2_with fail
    refine (bytes_any ab cb (encs [a0]) _ (by omega) HSAt.out).mono ?_
    rintro e w5 ⟨v5, rfl, hown5, hb5⟩
    rcases hown5.2 with ⟨_, hz⟩ | ⟨g, c5, cur, rfl, hg0', hgh, hg1, hg2, hg3, hg4⟩
    case inl => omega
    have hg0 : w3.heap.size ≤ g := Nat.le_trans HW3.size hg0'
    replace hown5 := hown5.base w3.heap.size HW3.size
    have HO5 := Lib.hid hown5
    have HB5x : Below w3.heap.size w3 w5 := HW3.trans (hb5.mono HW3.size)
    have hg2' : c5 ≤ 9223372036854775807 := by unfold maxLen at hg2; exact hg2
    have hs5 : w3.heap.size ≤ w5.heap.size := HB5x.size
    obtain ⟨m, hm⟩ : ∃ m, (encs [a0]).length = m + 1 := ⟨(encs [a0]).length - 1, by omega⟩
    obtain ⟨hc, hf⟩ := own_get hown5 m (by omega)
    have hl128 : (encs [a0]).getD m 0 < 128 := by
      have := enc_last (zig a0) _ (Nat.le_refl _)
      rw [← encs_one, hm] at this
      exact this
    have EO := or128s _ hl128
    have hst := hown5.stored m (.int .u8 (((encs [a0]).getD m 0 + 128 : Nat) : Int))
    have hex : ∀ y ∈ brk (zig a0), y < 256 := brk_byte _
    have hbl : (brk (zig a0)).length = m + 1 + 1 := by rw [brk_len, ← encs_one, hm]
    have hcells : (brk (zig a0)).map bc = ((encs [a0]).map bc).set m (.int .u8 (((encs [a0]).getD m 0 + 128 : Nat) : Int)) ++ [.int .u8 0] := by
      have := brk_cells (zig a0)
      rw [← encs_one, hm] at this
      exact this
    generalize (encs [a0]).getD m 0 = x at hc EO hst hcells
    rw [hm] at hst
    rw [show ((x + 128 : Nat) : Int) = (x : Int) + 128 from rfl] at EO hst hcells
    have HEX := Lib.hid hex
    have HCE := Lib.hid hcells
    have HBL := Lib.hid hbl
    have HO6 := Lib.hid hst.1
    have hb6 : Below w3.heap.size w3 (w5.setCell ⟨g, m, none⟩ (.int .u8 ((x : Int) + 128))) := HB5x.grown hst.2 HB5x.size (fun k hk => by obtain rfl := Option.some.inj hk; omega)
    obtain ⟨i0, hi, hz0, hz1, hz2⟩ := info_parts infoByte
    have HI := Lib.hid (⟨hi, hz0, hz1, hz2⟩ : Tryd.prog.info? 5 = some i0 ∧ i0.zero = some (.int .u8 0) ∧ i0.size = 1 ∧ i0.bytes = 1)
    have HB6 := Lib.hid hb6
    clear hown5 hb5 HW3 hgh hg3 hg4 hg2 hl128 hst hex hcells hbl hb6 hi hz0 hz1 hz2 HB5x HO5
    go_wp2_with (first | (at_builtin; refine wpList_append_own _ rfl _ _ 22 rfl w3.heap.size 5 i0 (.int .u8 0) 1 1 Tryd.underlying22 HI.out.1 HI.out.2.1 HI.out.2.2.1 HI.out.2.2.2 rfl (by decide) _ _ _ rfl (HO6.out.alloc _) _ 1 1 [.int .u8 0] rfl rfl ?c1 ?c2 ?c3 ?c4 ?c5 ?_))
    case c1 =>
      intro j u hj
      match j, hj with
      | 0, hj => simp at hj; subst hj; exact set_alloc_cell w5 _ _ _ _
      | (j + 1), hj => simp at hj
    case c2 => intro u hu; simp at hu; subst hu; rfl
    case c3 => unfold maxLen; omega
    case c4 => omega
    case c5 => simp; omega
    intro v7 w7 hown7 hgrow7 _
    have HX : Hid (w7.ownsRow w3.heap.size 5 1 v7 (m + 1 + 1) ((brk (zig a0)).map bc)) := Lib.hid (by rw [HCE.out]; exact hown7)
    have hb7 : Below w3.heap.size w3 w7 := own_grown2 (HB6.out.alloc HB6.out.size _) (by simp; omega) (HO6.out.alloc _) hgrow7 rfl
    have HK7 := HK3.step hb7
    clear hown7 hgrow7 hb7 HKt HK3
    go_wp2_with fail
    refine (nr_own w3.heap.size _ v7 (brk (zig a0)) _ HX.out HEX.out (by rw [HBL.out]; omega)).mono ?_
    rintro e w8 ⟨p, gg, rfl, hrd, hp, hg, hb8⟩
    have HB8 := Lib.hid hb8
    have HRD := Lib.hid hrd
    clear hrd hb8 HX
    go_wp2_with fail
    refine (rd_num_bad HRD.out (by rw [HBL.out]; omega) (Nat.zero_le _) (c := 2) (.inr ⟨rfl, rfl⟩) (by rw [List.drop_zero]; exact pars_brk _ _ _ _ (Nat.le_refl _)) _ _ (sA A 1) ((HK7.step HB8.out).sen.cell 1 (by decide)).1).mono ?_
    rintro e w9 ⟨rfl, ⟨q, hrd9, hq, hq0, hq1⟩, hg9⟩
    obtain ⟨HK9, hb9⟩ := HK7.own HB8.out hp hg9
    have HRD9 := Lib.hid hrd9
    have HF : FaultIs (Value.iface 76 (.pointer (some ⟨q, 0, none⟩))) (101 + ((1 : Nat) : Int)) 0 true w9 := FaultIs.at HK9.sen 1 (by decide) 0 q ⟨hq, hq0, hq1⟩
    have HFF := Lib.hid HF
    clear hrd9 hg9 hb9 hq hq0 hq1 HF
    go_wp2_with (first | (go_at_call 20; refine (rd_err HRD9.out).mono ?_; rintro e w10 ⟨rfl, rfl⟩) | (go_at_call 23; refine (rd_at (HRD9.out.below (hb11.trans (hb12.mono hb11.size)) HRD9.out.lp HRD9.out.lg)).mono ?_; rintro e w10 ⟨rfl, rfl⟩) | (go_at_call 22; refine (placed_is 102 0 (by decide) _).mono ?_; rintro e w11 ⟨rfl, hb11⟩) | (go_at_call 21; refine (same_any _ _ _ _ _ _ _ _ (HFF.out.later hb11)).mono ?_; rintro e w12 ⟨rfl, hb12⟩))
    go_ret
    refine ⟨?_, ((HK9.step hb11).step hb12).bel⟩
    simp
theorem walk_WireForms (a0 : Int) (a1 : Int) (w : World) (w0 : (Lit.int .i64 a0).wf = true) (w1 : (Lit.int .i64 a1).wf = true) (hL : laidMetH Tryd.prog Rows.wireFormsRow.laid w) :
    Calls Tryd.prog 4 #[.int .i64 a0, .int .i64 a1] w fun e w' => e = .returned (.bool true) ∧ Below w.heap.size w w' := by
  rw [MakeChecks.laidMetH_plain _ _ _ (by kernel_rfl)] at hL
  exact forms_any _ a0 a1 w (sen_of hL (by intro n hn; simp only [List.mem_cons, List.not_mem_nil, or_false] at hn; rcases hn with rfl | rfl | rfl | rfl | rfl | rfl | rfl | rfl | rfl | rfl | rfl | rfl <;> exact ⟨_, by repeat (first | exact List.Mem.head _ | apply List.Mem.tail)⟩)) (i64_fit2 w0) (i64_fit2 w1)
end Go.Proofs.YtggnaalcdekccaaDoor
