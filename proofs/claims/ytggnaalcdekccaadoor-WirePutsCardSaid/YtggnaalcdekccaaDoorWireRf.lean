import Derived.Test.YtggnaalcdekccaaDoorWireCt
namespace Go.Proofs.YtggnaalcdekccaaDoor
open Go.ChangeShapes Go.WideShapes Go.ChangeAt Go.RowKit
set_option linter.unusedVariables false
theorem zig_neg (n : Int) (h0 : n < 0) (h1 : -9223372036854775808 ≤ n) : bits BinOp.xor IntKind.u64 IntKind.u64.max (IntKind.u64.wrap (IntKind.u64.wrap n * 2)) = (zig n : Int) := by
  have e : IntKind.u64.wrap (IntKind.u64.wrap n * 2) = ((18446744073709551616 + 2 * n).toNat : Int) := by
    rw [u64_wrap_is, u64_wrap_is]; omega
  have hb : (18446744073709551616 + 2 * n).toNat < 18446744073709551616 := by omega
  have hx := u64_xor_ones (18446744073709551616 + 2 * n).toNat hb
  have hc : bits BinOp.xor IntKind.u64 IntKind.u64.max ((18446744073709551616 + 2 * n).toNat : Int) = bits BinOp.xor IntKind.u64 ((18446744073709551616 + 2 * n).toNat : Int) 18446744073709551615 := by
    show IntKind.u64.wrap ((BitVec.ofInt 64 _ ^^^ BitVec.ofInt 64 _).toNat : Int) = IntKind.u64.wrap ((BitVec.ofInt 64 _ ^^^ BitVec.ofInt 64 _).toNat : Int)
    rw [BitVec.xor_comm]
    rfl
  rw [e, hc, hx]
  unfold zig
  rw [if_neg (by omega)]
  omega
theorem zig_pos (n : Int) (h0 : 0 ≤ n) (h2 : n ≤ 9223372036854775807) : IntKind.u64.wrap (IntKind.u64.wrap n * 2) = (zig n : Int) := by
  rw [u64_wrap_is, u64_wrap_is]
  unfold zig
  rw [if_pos h0]
  omega
theorem and127 (q : Nat) (hq : q < 18446744073709551616) : bits BinOp.and IntKind.u64 (q : Int) 127 = (q : Int) % 128 := by
  have := u64_and_nat q 127 hq (by decide)
  rw [show q &&& 127 = q % 128 from Nat.and_two_pow_sub_one_eq_mod q 7] at this
  exact this
theorem or128u (q : Nat) : bits BinOp.or IntKind.u64 ((q : Int) % 128) 128 = (q : Int) % 128 + 128 := by
  have := u64_or_nat (q % 128) 128 (by omega) (by decide)
  have key : ∀ x : Fin 128, x.val ||| 128 = x.val + 128 := by decide +kernel
  have h2 := key ⟨q % 128, by omega⟩
  simp only at h2
  rw [h2] at this
  exact this
set_option maxRecDepth 100000 in
set_option maxHeartbeats 4000000 in
theorem refput_any (a : Option Addr) (cap : Nat) (bs : List Nat) (n : Int) (w : World) (hl : bs.length ≤ 10000) (hb : SrcB w a bs) (r0 : -9223372036854775808 ≤ n) (r1 : n ≤ 9223372036854775807) :
    Calls Tryd.prog 14 #[.slice a bs.length cap, .int .i64 n] w fun e w' => OutB w w' (bs ++ enc (zig n)) e := by
  have HS := Lib.hid hb
  have HR := Lib.hid (⟨r0, r1⟩ : -9223372036854775808 ≤ n ∧ n ≤ 9223372036854775807)
  clear hb r0 r1
  obtain ⟨i0, hi, hz0, hz1, hz2⟩ := info_parts infoByte
  have HI := Lib.hid (⟨hi, hz0, hz1, hz2⟩ : Tryd.prog.info? 5 = some i0 ∧ i0.zero = some (.int .u8 0) ∧ i0.size = 1 ∧ i0.bytes = 1)
  clear hi hz0 hz1 hz2
  have HU := Lib.hid (zig_lt HR.out.1 HR.out.2)
  have HEX := Lib.hid (show ∀ x ∈ bs ++ enc (zig n), x < 256 by intro x hx; rcases List.mem_append.1 hx with h | h; exact HS.out.1 x h; exact enc_byte' _ x h)
  by_cases hn : n < 0
  · go_enter Tryd.func14, Tryd.ntmps14
    go_wp2_with (first | (go_at_call 13; refine (bytes_any a cap bs _ hl HS.out).mono ?_; rintro e w1 ⟨v1, rfl, hown1, hb1⟩))
    have HZ := Lib.hid (zig_neg n hn HR.out.1)
    clear hn
    have HO1 := Lib.hid hown1
    have HB1 := Lib.hid hb1
    clear hown1 hb1
    generalize hm : zig n = m0 at HU HEX HZ ⊢
    rw [HZ.out]
    have HM := Lib.hid hm
    clear HZ hm
    go_loopw [5, 6] (fun b u wr => ∃ (pre : List Nat) (q : Nat), u = .int .u64 q ∧ pre ++ enc q = enc m0 ∧ q < 18446744073709551616 ∧ wr.ownsRow w.heap.size 5 1 b (bs.length + pre.length) (bs.map bc ++ pre.map bc) ∧ Below w.heap.size w wr ∧ w.heap.size ≤ wr.heap.size) (fun _ u _ => (intOf u).toNat)
    case atStart => exact ⟨[], m0, rfl, rfl, HU.out, by simpa using HO1.out, HB1.out, HB1.out.size⟩
    case round =>
      obtain ⟨pre, q, rfl, hpre, hq, hown1, hbel, hBr⟩ := hrel
      have hpl : pre.length ≤ 10 := by have h1 := enc_len10 HU.out; rw [← hpre] at h1; simp at h1; omega
      have HP := Lib.hid hpre
      clear hpre
      have HQ := Lib.hid hq
      clear hq
      have HW := Lib.hid hown1
      have HL := Lib.hid hbel
      clear hown1 hbel
      by_cases hlt : q < 128
      · go_wp2_with (first | (at_builtin; refine wpList_append_own _ rfl _ _ 22 rfl w.heap.size 5 i0 (.int .u8 0) 1 1 Tryd.underlying22 HI.out.1 HI.out.2.1 HI.out.2.2.1 HI.out.2.2.2 rfl (by decide) _ _ _ rfl (HW.out.alloc _) ⟨wr.heap.size, 0, none⟩ 1 1 [.int .u8 q] rfl rfl ?c1 ?c2 ?c3 ?c4 ?c5 ?_))
        case c1 =>
          intro j u hj
          match j, hj with
          | 0, hj => simp at hj; subst hj; simp [Addr.add]
          | (j + 1), hj => simp at hj
        case c2 => intro u hu; simp at hu; subst hu; rfl
        case c3 => unfold maxLen; omega
        case c4 => omega
        case c5 => simp; omega
        intro v' w2 hown' hgrow _
        have HB2 := Lib.hid (own_grown (HL.out.alloc hBr _) (by simp; omega) (HW.out.alloc _) hgrow (.inl rfl))
        have HE := Lib.hid (put_small HP.out hlt)
        have HO2 : Hid (w2.ownsRow w.heap.size 5 1 v' (bs.length + pre.length + 1) ((bs ++ enc m0).map bc)) := Lib.hid (by rw [← HE.out, List.map_append, List.map_append]; exact hown')
        clear hgrow hown'
        go_wp2
        go_ret
        rw [HM.out]
        exact outB_of HO2.out HEX.out HB2.out
      · have EA := and127 q HQ.out
        have EO := or128u q
        have EW : IntKind.u8.wrap ((q % 128 + 128 : Nat) : Int) = ((q % 128 + 128 : Nat) : Int) := by simp [IntKind.wrap, IntKind.bits, IntKind.signed]; omega
        go_wp2_with (first | (at_builtin; refine wpList_append_own _ rfl _ _ 22 rfl w.heap.size 5 i0 (.int .u8 0) 1 1 Tryd.underlying22 HI.out.1 HI.out.2.1 HI.out.2.2.1 HI.out.2.2.2 rfl (by decide) _ _ _ rfl (HW.out.alloc _) ⟨wr.heap.size, 0, none⟩ 1 1 [.int .u8 ((q % 128 + 128 : Nat) : Int)] rfl rfl ?d1 ?d2 ?d3 ?d4 ?d5 ?_))
        case d1 =>
          intro j u hj
          match j, hj with
          | 0, hj => simp at hj; subst hj; first | (simp [Addr.add]; done) | (simp [Addr.add]; omega)
          | (j + 1), hj => simp at hj
        case d2 => intro u hu; simp at hu; subst hu; rfl
        case d3 => unfold maxLen; omega
        case d4 => omega
        case d5 => simp; omega
        intro v' w2 hown' hgrow _
        have HB2 := Lib.hid (own_grown (HL.out.alloc hBr _) (by simp; omega) (HW.out.alloc _) hgrow (.inl rfl))
        have hz1' : wr.heap.size + 1 ≤ w2.heap.size := by have := hgrow.size; simpa using this
        have HE := Lib.hid (put_big HP.out hlt)
        have h2 : 128 ≤ q := by omega
        have HO := Lib.hid hown'
        clear hown' EO EA EW hgrow
        go_wp2
        go_roundw
        case rel => exact ⟨pre ++ [q % 128 + 128], q / 128, by go_num, HE.out, by have := HQ.out; omega, by have := HO.out; rw [List.map_append, List.length_append, ← Nat.add_assoc]; exact this, HB2.out, by omega⟩
        case measure => simp [intOf]; omega
  · go_enter Tryd.func14, Tryd.ntmps14
    go_wp2_with (first | (go_at_call 13; refine (bytes_any a cap bs _ hl HS.out).mono ?_; rintro e w1 ⟨v1, rfl, hown1, hb1⟩))
    have HZ := Lib.hid (zig_pos n (by omega) HR.out.2)
    clear hn
    have HO1 := Lib.hid hown1
    have HB1 := Lib.hid hb1
    clear hown1 hb1
    generalize hm : zig n = m0 at HU HEX HZ ⊢
    rw [HZ.out]
    have HM := Lib.hid hm
    clear HZ hm
    go_loopw [5, 6] (fun b u wr => ∃ (pre : List Nat) (q : Nat), u = .int .u64 q ∧ pre ++ enc q = enc m0 ∧ q < 18446744073709551616 ∧ wr.ownsRow w.heap.size 5 1 b (bs.length + pre.length) (bs.map bc ++ pre.map bc) ∧ Below w.heap.size w wr ∧ w.heap.size ≤ wr.heap.size) (fun _ u _ => (intOf u).toNat)
    case atStart => exact ⟨[], m0, rfl, rfl, HU.out, by simpa using HO1.out, HB1.out, HB1.out.size⟩
    case round =>
      obtain ⟨pre, q, rfl, hpre, hq, hown1, hbel, hBr⟩ := hrel
      have hpl : pre.length ≤ 10 := by have h1 := enc_len10 HU.out; rw [← hpre] at h1; simp at h1; omega
      have HP := Lib.hid hpre
      clear hpre
      have HQ := Lib.hid hq
      clear hq
      have HW := Lib.hid hown1
      have HL := Lib.hid hbel
      clear hown1 hbel
      by_cases hlt : q < 128
      · go_wp2_with (first | (at_builtin; refine wpList_append_own _ rfl _ _ 22 rfl w.heap.size 5 i0 (.int .u8 0) 1 1 Tryd.underlying22 HI.out.1 HI.out.2.1 HI.out.2.2.1 HI.out.2.2.2 rfl (by decide) _ _ _ rfl (HW.out.alloc _) ⟨wr.heap.size, 0, none⟩ 1 1 [.int .u8 q] rfl rfl ?c1 ?c2 ?c3 ?c4 ?c5 ?_))
        case c1 =>
          intro j u hj
          match j, hj with
          | 0, hj => simp at hj; subst hj; simp [Addr.add]
          | (j + 1), hj => simp at hj
        case c2 => intro u hu; simp at hu; subst hu; rfl
        case c3 => unfold maxLen; omega
        case c4 => omega
        case c5 => simp; omega
        intro v' w2 hown' hgrow _
        have HB2 := Lib.hid (own_grown (HL.out.alloc hBr _) (by simp; omega) (HW.out.alloc _) hgrow (.inl rfl))
        have HE := Lib.hid (put_small HP.out hlt)
        have HO2 : Hid (w2.ownsRow w.heap.size 5 1 v' (bs.length + pre.length + 1) ((bs ++ enc m0).map bc)) := Lib.hid (by rw [← HE.out, List.map_append, List.map_append]; exact hown')
        clear hgrow hown'
        go_wp2
        go_ret
        rw [HM.out]
        exact outB_of HO2.out HEX.out HB2.out
      · have EA := and127 q HQ.out
        have EO := or128u q
        have EW : IntKind.u8.wrap ((q % 128 + 128 : Nat) : Int) = ((q % 128 + 128 : Nat) : Int) := by simp [IntKind.wrap, IntKind.bits, IntKind.signed]; omega
        go_wp2_with (first | (at_builtin; refine wpList_append_own _ rfl _ _ 22 rfl w.heap.size 5 i0 (.int .u8 0) 1 1 Tryd.underlying22 HI.out.1 HI.out.2.1 HI.out.2.2.1 HI.out.2.2.2 rfl (by decide) _ _ _ rfl (HW.out.alloc _) ⟨wr.heap.size, 0, none⟩ 1 1 [.int .u8 ((q % 128 + 128 : Nat) : Int)] rfl rfl ?d1 ?d2 ?d3 ?d4 ?d5 ?_))
        case d1 =>
          intro j u hj
          match j, hj with
          | 0, hj => simp at hj; subst hj; first | (simp [Addr.add]; done) | (simp [Addr.add]; omega)
          | (j + 1), hj => simp at hj
        case d2 => intro u hu; simp at hu; subst hu; rfl
        case d3 => unfold maxLen; omega
        case d4 => omega
        case d5 => simp; omega
        intro v' w2 hown' hgrow _
        have HB2 := Lib.hid (own_grown (HL.out.alloc hBr _) (by simp; omega) (HW.out.alloc _) hgrow (.inl rfl))
        have hz1' : wr.heap.size + 1 ≤ w2.heap.size := by have := hgrow.size; simpa using this
        have HE := Lib.hid (put_big HP.out hlt)
        have h2 : 128 ≤ q := by omega
        have HO := Lib.hid hown'
        clear hown' EO EA EW hgrow
        go_wp2
        go_roundw
        case rel => exact ⟨pre ++ [q % 128 + 128], q / 128, by go_num, HE.out, by have := HQ.out; omega, by have := HO.out; rw [List.map_append, List.length_append, ← Nat.add_assoc]; exact this, HB2.out, by omega⟩
        case measure => simp [intOf]; omega
end Go.Proofs.YtggnaalcdekccaaDoor
