/-
  wire: putOne, parse: contracts.
-/
import Derived.Test.YtggnaalcdekccaaDoorWireMath
import Derived.Test.YtggnaalcdekccaaDoorSee
import Derived.OwnWalk
import Derived.Laws.OwnMore
import Derived.Laws.AppendOwnNone
import Derived.LoopN
import Derived.Deep.QuietTactic
import Derived.BigQuiet
import Derived.WalkSmall
namespace Go.Proofs.YtggnaalcdekccaaDoor
open Go.ChangeShapes Go.WideShapes Go.ChangeAt Go.RowKit
set_option linter.unusedVariables false
/-- A byte's cell. -/
def bc (x : Nat) : Value := .int .u8 (x : Int)
theorem infoByte : (Tryd.prog.info? 5).map (fun i => (i.zero, i.size, i.bytes)) = some (some (.int .u8 0), 1, 1) := by kernel_rfl
theorem or128 (q : Nat) : bits BinOp.or IntKind.u8 ((q : Int) % 256) 128 = ((q % 128 + 128 : Nat) : Int) := by
  rw [u8_or _ 128 (by omega) (by omega) (by omega) (by omega)]
  have e : ((q : Int) % 256).toNat = q % 256 := by omega
  rw [e]
  have key : ∀ x : Fin 256, x.val ||| 128 = x.val % 128 + 128 := by decide +kernel
  have := key ⟨q % 256, by omega⟩
  simp only at this
  rw [show (128 : Int).toNat = 128 from rfl, this]
  omega
theorem own_grown {B : Nat} {w wr w1 : World} {row : Option Nat} {v : Value} {n : Nat} {xs : List Value} {E : TypeId} (hb : Below B w wr) (hB : B ≤ wr.heap.size) (hown : wr.ownsRow B E 1 v n xs) (hg : wr.grownBy w1 row) (hr : row = v.ownBlock ∨ row = none) : Below B w w1 := by
  refine hb.grown hg hB fun k hk => ?_
  rcases hr with rfl | rfl
  · rcases hown.2 with ⟨rfl, _⟩ | ⟨g, cap, cur, rfl, h1, _⟩
    · simp [Value.ownBlock] at hk
    · simp [Value.ownBlock] at hk; omega
  · cases hk
theorem put_small {q m0 : Nat} {pre : List Nat} (hp : pre ++ enc q = enc m0) (hq : q < 128) : pre ++ [q] = enc m0 := by rw [← enc_lt hq]; exact hp
theorem put_big {q m0 : Nat} {pre : List Nat} (hp : pre ++ enc q = enc m0) (hq : ¬ q < 128) : (pre ++ [q % 128 + 128]) ++ enc (q / 128) = enc m0 := by rw [← hp, enc_ge (u := q) (by omega)]; simp
set_option maxRecDepth 100000 in
set_option maxHeartbeats 1000000 in
theorem putone_any (B n : Nat) (v : Value) (xs : List Value) (m0 : Nat) (w : World) (hown : w.ownsRow B 5 1 v n xs) (hB : B ≤ w.heap.size) (hn : n ≤ 1000000) (hu : m0 < 18446744073709551616) :
    Calls Tryd.prog 41 #[v, .int .u64 m0] w fun e w' => ∃ v', e = .returned v' ∧ w'.ownsRow B 5 1 v' (n + (enc m0).length) (xs ++ (enc m0).map bc) ∧ Below B w w' := by
  have HU := Lib.hid hu
  clear hu
  obtain ⟨i0, hi, hz0, hz1, hz2⟩ := info_parts infoByte
  go_enter Tryd.func41, Tryd.ntmps41
  go_wp2_with fail
  go_loopw [0, 1] (fun b u wr => ∃ (pre : List Nat) (q : Nat), u = .int .u64 q ∧ pre ++ enc q = enc m0 ∧ q < 18446744073709551616 ∧ wr.ownsRow B 5 1 b (n + pre.length) (xs ++ pre.map bc) ∧ Below B w wr ∧ B ≤ wr.heap.size) (fun _ u _ => (intOf u).toNat)
  case atStart => exact ⟨[], m0, rfl, rfl, HU.out, by simpa using hown, Below.refl _ _, hB⟩
  case round =>
    obtain ⟨pre, q, rfl, hpre, hq, hown1, hbel, hBr⟩ := hrel
    have hpl : pre.length ≤ 10 := by have h1 := enc_len10 HU.out; rw [← hpre] at h1; simp at h1; omega
    have HP := Lib.hid hpre
    clear hpre
    have HQ := Lib.hid hq
    clear hq
    by_cases hlt : q < 128
    · go_wp2_with (first | (at_builtin; refine wpList_append_own _ rfl _ _ 22 rfl B 5 i0 (.int .u8 0) 1 1 Tryd.underlying22 hi hz0 hz1 hz2 rfl (by decide) _ _ _ rfl (hown1.alloc _) ⟨wr.heap.size, 0, none⟩ 1 1 [.int .u8 q] rfl rfl ?c1 ?c2 ?c3 ?c4 ?c5 ?_))
      case c1 =>
        intro j u hj
        match j, hj with
        | 0, hj => simp at hj; subst hj; simp [Addr.add]
        | (j + 1), hj => simp at hj
      case c2 => intro u hu; simp at hu; subst hu; rfl
      case c3 => unfold maxLen; omega
      case c4 => omega
      case c5 => simp; omega
      intro v' w1 hown' hgrow _
      have hb1 := own_grown (hbel.alloc hBr _) (by simp; omega) (hown1.alloc _) hgrow (.inl rfl)
      have e := put_small HP.out hlt
      have HE := Lib.hid e
      clear hgrow hown hown1 hbel e
      go_wp2
      go_ret
      refine ⟨v', rfl, ?_, hb1⟩
      rw [← HE.out, List.map_append, List.length_append, ← Nat.add_assoc]
      exact hown'
    · have EO := or128 q
      go_wp2_with (first | (at_builtin; refine wpList_append_own _ rfl _ _ 22 rfl B 5 i0 (.int .u8 0) 1 1 Tryd.underlying22 hi hz0 hz1 hz2 rfl (by decide) _ _ _ rfl (hown1.alloc _) ⟨wr.heap.size, 0, none⟩ 1 1 [.int .u8 ((q % 128 + 128 : Nat) : Int)] rfl rfl ?d1 ?d2 ?d3 ?d4 ?d5 ?_))
      case d1 =>
        intro j u hj
        match j, hj with
        | 0, hj => simp at hj; subst hj; simp [Addr.add]
        | (j + 1), hj => simp at hj
      case d2 => intro u hu; simp at hu; subst hu; rfl
      case d3 => unfold maxLen; omega
      case d4 => omega
      case d5 => simp; omega
      intro v' w1 hown' hgrow _
      have hb1 := own_grown (hbel.alloc hBr _) (by simp; omega) (hown1.alloc _) hgrow (.inl rfl)
      have hz1' : wr.heap.size + 1 ≤ w1.heap.size := by have := hgrow.size; simpa using this
      have HE := Lib.hid (put_big HP.out hlt)
      have h2 : 128 ≤ q := by omega
      clear hgrow hown hown1 hbel
      have HO := Lib.hid hown'
      clear hown' EO
      go_wp2
      go_roundw
      case rel => exact ⟨pre ++ [q % 128 + 128], q / 128, by go_num, HE.out, by have := HQ.out; omega, by have := HO.out; rw [List.map_append, List.length_append, ← Nat.add_assoc]; exact this, hb1, by omega⟩
      case measure => simp [intOf]; omega
/-- Bytes that lie in memory from an address on. -/
def BytesAt (w : World) (ad : Addr) (bs : List Nat) : Prop := ∀ i, i < bs.length → w.cell? (ad.add i) = some (bc (bs.getD i 0)) ∧ bs.getD i 0 < 256
theorem u64_wrap_small (n : Nat) (h : n < 18446744073709551616) : IntKind.u64.wrap (n : Int) = (n : Int) := by
  rw [show IntKind.u64.wrap (n : Int) = (n : Int) % 18446744073709551616 by simp [IntKind.wrap, IntKind.bits, IntKind.signed]]
  omega
theorem pow128 (k : Nat) : (2 : Nat) ^ (7 * k) = 128 ^ k := by rw [Nat.pow_mul]
theorem acc_step (q x k : Nat) (hx : x < 256) (hq : q < 128 ^ k) (hb : q + x % 128 * 128 ^ k < 18446744073709551616) :
    bits BinOp.or IntKind.u64 (q : Int) (IntKind.u64.wrap (IntKind.u64.wrap (bits BinOp.and IntKind.u8 (x : Int) 127) * 2 ^ (7 * k))) = ((q + x % 128 * 128 ^ k : Nat) : Int) := by
  have e1 : bits BinOp.and IntKind.u8 (x : Int) 127 = ((x % 128 : Nat) : Int) := by
    rw [u8_and (x : Int) 127 (by omega) (by omega) (by omega) (by omega), Int.toNat_natCast, show (127 : Int).toNat = 127 from rfl, nat_mask7]
  have hlt : x % 128 * 128 ^ k < 18446744073709551616 := by omega
  have e2 : ((x % 128 : Nat) : Int) * 2 ^ (7 * k) = ((x % 128 * 128 ^ k : Nat) : Int) := by
    rw [Int.natCast_mul, ← pow128, Int.natCast_pow]
    rfl
  rw [e1, u64_wrap_small _ (by omega), e2, u64_wrap_small _ hlt, u64_or_nat _ _ (by omega) hlt, Nat.or_comm, nat_join (7 * k) _ q (by rw [pow128]; exact Nat.mul_mod_left _ _) (by rw [pow128]; exact hq), Nat.add_comm]
theorem acc_nine (q x : Nat) (hx : x < 256) (hq : q < 128 ^ 9) (hb : q + x % 128 * 128 ^ 9 < 18446744073709551616) :
    bits BinOp.or IntKind.u64 (q : Int) (IntKind.u64.wrap (IntKind.u64.wrap (bits BinOp.and IntKind.u8 (x : Int) 127) * 9223372036854775808)) = ((q + x % 128 * 128 ^ 9 : Nat) : Int) := acc_step q x 9 hx hq hb
theorem ret_parse {a a' : Int} {k k' : Int} (h1 : a = a') (h2 : k = k') : Ending.returned (.tuple #[.int .u64 a, .int .i64 k, .nilIface]) = .returned (.tuple #[.int .u64 a', .int .i64 k', .nilIface]) := by rw [h1, h2]
theorem pow_nine (q : Nat) (h : q < 128 ^ 9) (x : Nat) (hx : x ≤ 1) : q + x % 128 * 128 ^ 9 < 18446744073709551616 := by
  have : (128 : Nat) ^ 9 = 9223372036854775808 := by decide
  rw [this] at *
  have : x % 128 ≤ 1 := by omega
  omega
theorem pow_less (q k : Nat) (h : q < 128 ^ k) (hk : k < 9) (x : Nat) : q + x % 128 * 128 ^ k < 128 ^ (k + 1) ∧ q + x % 128 * 128 ^ k < 18446744073709551616 := by
  have h1 : q + x % 128 * 128 ^ k < 128 ^ (k + 1) := by
    rw [Nat.pow_succ, Nat.mul_comm (128 ^ k)]
    have : x % 128 * 128 ^ k ≤ 127 * 128 ^ k := Nat.mul_le_mul_right _ (by omega)
    omega
  have h2 : (128 : Nat) ^ (k + 1) ≤ 128 ^ 9 := Nat.pow_le_pow_right (by decide) (by omega)
  have h3 : (128 : Nat) ^ 9 = 9223372036854775808 := by decide
  exact ⟨h1, by omega⟩
/-- One step of pars at a place that is there. -/
theorem pars_at {bs : List Nat} {k q u0 k0 : Nat} (hk : k < bs.length) (h : pars k q (bs.drop k) = (u0, k0, 0)) :
    ¬ ((k = 9 ∧ 1 < bs.getD k 0) ∨ (0 < k ∧ bs.getD k 0 = 0)) ∧ (bs.getD k 0 < 128 → u0 = q + bs.getD k 0 % 128 * 128 ^ k ∧ k0 = k + 1) ∧ (¬ bs.getD k 0 < 128 → pars (k + 1) (q + bs.getD k 0 % 128 * 128 ^ k) (bs.drop (k + 1)) = (u0, k0, 0)) := by
  have e : bs.drop k = bs.getD k 0 :: bs.drop (k + 1) := by
    rw [List.drop_eq_getElem_cons hk]
    simp [List.getD, hk]
  rw [e, pars] at h
  split at h
  · simp at h
  · rename_i hc
    refine ⟨hc, ?_, ?_⟩
    · intro hl
      rw [if_pos hl] at h
      simp only [Prod.mk.injEq, and_true] at h
      exact ⟨h.1.symm, h.2.symm⟩
    · intro hl
      rw [if_neg hl] at h
      exact h
set_option maxRecDepth 100000 in
set_option maxHeartbeats 1000000 in
theorem parse_any (ad : Addr) (cap : Nat) (bs : List Nat) (w : World) (hl : bs.length ≤ 1000000) (hc : bs.length ≤ cap) (hcm : cap ≤ 1000000000) (hb : BytesAt w ad bs) (u0 k0 : Nat) (hp : pars 0 0 bs = (u0, k0, 0)) :
    Calls Tryd.prog 42 #[.slice (some ad) bs.length cap] w fun e w' => e = .returned (.tuple #[.int .u64 u0, .int .i64 k0, .nilIface]) ∧ w = w' := by
  have HP := Lib.hid hp
  have HB := Lib.hid hb
  clear hp hb
  go_enter Tryd.func42, Tryd.ntmps42
  go_wp2_with fail
  go_loop [5, 10] (fun u i => ∃ (k q : Nat), k ≤ bs.length ∧ i = .int .i64 k ∧ u = .int .u64 q ∧ pars k q (bs.drop k) = (u0, k0, 0) ∧ q < 128 ^ k ∧ k ≤ 9) (fun _ i => bs.length - (intOf i).toNat)
  case atStart => exact ⟨0, 0, by omega, rfl, rfl, HP.out, by decide, by omega⟩
  case round =>
    obtain ⟨k, q, hk, rfl, rfl, hpk, hq, hk9⟩ := hrel
    have hlt : k < bs.length := by
      rcases Nat.lt_or_ge k bs.length with h | h
      · exact h
      · rw [List.drop_eq_nil_of_le h] at hpk; simp [pars] at hpk
    have hat := pars_at hlt hpk
    obtain ⟨hcell, hx2⟩ := HB.out k hlt
    generalize bs.getD k 0 = x at hat hcell hx2
    obtain ⟨hno, hyes, hgo⟩ := hat
    have HY := Lib.hid hyes
    have HG := Lib.hid hgo
    have HQ := Lib.hid hq
    have HN := Lib.hid hno
    unfold bc at hcell
    clear hpk hyes hgo hq hno
    by_cases h9 : k = 9
    · have hx1 : x ≤ 1 := by have := HN.out; omega
      have hx0 : (((x : Nat) : Int) == 0) = false := by have := HN.out; simp; omega
      have h9t : (((k : Nat) : Int) == 9) = true := by simp; omega
      have hkp : 0 < k := by omega
      have hb9 : q + x % 128 * 128 ^ k < 18446744073709551616 := by have h := HQ.out; subst h9; exact pow_nine q h x hx1
      have HB9 := Lib.hid hb9
      clear hb9 h9
      go_wp2_with fail
      go_ret3
      have hy := HY.out (by omega)
      refine ⟨ret_parse ?_ ?_, rfl⟩
      · rw [hy.1]; exact acc_step q x k hx2 HQ.out HB9.out
      · rw [hy.2]; rfl
    · have hk8 : k < 9 := by omega
      have h9b : (((k : Nat) : Int) == 9) = false := by simp; omega
      by_cases h0 : k = 0
      · have hk0 : k ≤ 0 := by omega
        have d0 : decide (0 < k) = false := by simp; omega
        have d1 : decide ((0 : Int) < (k : Int)) = false := by simp; omega
        clear h0
        by_cases h128 : x < 128
        · go_wp2_with fail
          go_ret3
          have hy := HY.out h128
          refine ⟨ret_parse ?_ ?_, rfl⟩
          · rw [hy.1]; exact acc_step q x k hx2 HQ.out (pow_less q k HQ.out hk8 x).2
          · rw [hy.2]; rfl
        · go_wp2_with fail
          go_round
          case rel => exact ⟨k + 1, q + x % 128 * 128 ^ k, by omega, by go_num, congrArg (Value.int IntKind.u64) (acc_step q x k hx2 HQ.out (pow_less q k HQ.out hk8 x).2), HG.out h128, (pow_less q k HQ.out hk8 x).1, by omega⟩
          case measure => simp [intOf]; omega
      · have hx0 : (((x : Nat) : Int) == 0) = false := by have := HN.out; simp; omega
        have hkp : 0 < k := by omega
        by_cases h128 : x < 128
        · go_wp2_with fail
          go_ret3
          have hy := HY.out h128
          refine ⟨ret_parse ?_ ?_, rfl⟩
          · rw [hy.1]; exact acc_step q x k hx2 HQ.out (pow_less q k HQ.out hk8 x).2
          · rw [hy.2]; rfl
        · go_wp2_with fail
          go_round
          case rel => exact ⟨k + 1, q + x % 128 * 128 ^ k, by omega, by go_num, congrArg (Value.int IntKind.u64) (acc_step q x k hx2 HQ.out (pow_less q k HQ.out hk8 x).2), HG.out h128, (pow_less q k HQ.out hk8 x).1, by omega⟩
          case measure => simp [intOf]; omega
theorem drop_at {bs : List Nat} {k : Nat} (hk : k < bs.length) : bs.drop k = bs.getD k 0 :: bs.drop (k + 1) := by
  rw [List.drop_eq_getElem_cons hk]
  simp [List.getD, hk]
theorem pars_at_cut {bs : List Nat} {k q : Nat} (hk : k < bs.length) (h : pars k q (bs.drop k) = (0, 0, 1)) :
    ¬ ((k = 9 ∧ 1 < bs.getD k 0) ∨ (0 < k ∧ bs.getD k 0 = 0)) ∧ ¬ bs.getD k 0 < 128 ∧ pars (k + 1) (q + bs.getD k 0 % 128 * 128 ^ k) (bs.drop (k + 1)) = (0, 0, 1) := by
  rw [drop_at hk, pars] at h
  split at h
  · simp at h
  · rename_i hc
    split at h
    · simp at h
    · rename_i hl
      exact ⟨hc, hl, h⟩
theorem pars_at_shape {bs : List Nat} {k q : Nat} (h : pars k q (bs.drop k) = (0, 0, 2)) :
    k < bs.length ∧ (((k = 9 ∧ 1 < bs.getD k 0) ∨ (0 < k ∧ bs.getD k 0 = 0)) ∨ (¬ ((k = 9 ∧ 1 < bs.getD k 0) ∨ (0 < k ∧ bs.getD k 0 = 0)) ∧ ¬ bs.getD k 0 < 128 ∧ pars (k + 1) (q + bs.getD k 0 % 128 * 128 ^ k) (bs.drop (k + 1)) = (0, 0, 2))) := by
  have hk : k < bs.length := by
    rcases Nat.lt_or_ge k bs.length with h' | h'
    · exact h'
    · rw [List.drop_eq_nil_of_le h'] at h; simp [pars] at h
  refine ⟨hk, ?_⟩
  rw [drop_at hk, pars] at h
  split at h
  · rename_i hc; exact .inl hc
  · rename_i hc
    split at h
    · simp at h
    · rename_i hl
      exact .inr ⟨hc, hl, h⟩
set_option maxRecDepth 100000 in
set_option maxHeartbeats 1000000 in
theorem parse_cut (ad : Addr) (cap : Nat) (bs : List Nat) (w : World) (hl : bs.length ≤ 1000000) (hc : bs.length ≤ cap) (hcm : cap ≤ 1000000000) (hb : BytesAt w ad bs) (e1 : Value) (he : w.cell? ⟨3, 0, none⟩ = some e1) (hp : pars 0 0 bs = (0, 0, 1)) :
    Calls Tryd.prog 42 #[.slice (some ad) bs.length cap] w fun e w' => e = .returned (.tuple #[.int .u64 0, .int .i64 0, e1]) ∧ ∃ n, w' = w.drewN n := by
  have HP := Lib.hid hp
  have HB := Lib.hid hb
  clear hp hb
  go_enter Tryd.func42, Tryd.ntmps42
  go_wp2_with fail
  go_loop [5, 10] (fun u i => ∃ (k q : Nat), k ≤ bs.length ∧ i = .int .i64 k ∧ u = .int .u64 q ∧ pars k q (bs.drop k) = (0, 0, 1) ∧ q < 128 ^ k ∧ k ≤ 9) (fun _ i => bs.length - (intOf i).toNat)
  case atStart => exact ⟨0, 0, by omega, rfl, rfl, HP.out, by decide, by omega⟩
  case round =>
    obtain ⟨k, q, hk, rfl, rfl, hpk, hq, hk9⟩ := hrel
    by_cases hlt : k < bs.length
    · have hat := pars_at_cut hlt hpk
      obtain ⟨hcell, hx2⟩ := HB.out k hlt
      generalize bs.getD k 0 = x at hat hcell hx2
      obtain ⟨hno, h128, hgo⟩ := hat
      have HG := Lib.hid hgo
      have HQ := Lib.hid hq
      have HN := Lib.hid hno
      unfold bc at hcell
      clear hpk hgo hq hno he
      have hk8 : k < 9 := by have := HN.out; omega
      have h9b : (((k : Nat) : Int) == 9) = false := by simp; omega
      have hx0 : (((x : Nat) : Int) == 0) = false := by simp; omega
      by_cases h0 : 0 < k
      · go_wp2_with fail
        go_round
        case rel => exact ⟨k + 1, q + x % 128 * 128 ^ k, by omega, by go_num, congrArg (Value.int IntKind.u64) (acc_step q x k hx2 HQ.out (pow_less q k HQ.out hk8 x).2), HG.out, (pow_less q k HQ.out hk8 x).1, by omega⟩
        case measure => simp [intOf]; omega
      · have hk0 : k ≤ 0 := by omega
        have d0 : decide (0 < k) = false := by simp; omega
        have d1 : decide ((0 : Int) < (k : Int)) = false := by simp; omega
        clear h0
        go_wp2_with fail
        go_round
        case rel => exact ⟨k + 1, q + x % 128 * 128 ^ k, by omega, by go_num, congrArg (Value.int IntKind.u64) (acc_step q x k hx2 HQ.out (pow_less q k HQ.out hk8 x).2), HG.out, (pow_less q k HQ.out hk8 x).1, by omega⟩
        case measure => simp [intOf]; omega
    · have hge : bs.length ≤ k := by omega
      have hdd : decide (k < bs.length) = false := by simp; omega
      clear hpk hq
      go_wp2_with fail
      go_quiet (fail)
      go_wp2
      go_ret3
      exact ⟨rfl, _, rfl⟩
set_option maxRecDepth 100000 in
set_option maxHeartbeats 1000000 in
theorem parse_shape (ad : Addr) (cap : Nat) (bs : List Nat) (w : World) (hl : bs.length ≤ 1000000) (hc : bs.length ≤ cap) (hcm : cap ≤ 1000000000) (hb : BytesAt w ad bs) (e1 : Value) (he : w.cell? ⟨1, 0, none⟩ = some e1) (hp : pars 0 0 bs = (0, 0, 2)) :
    Calls Tryd.prog 42 #[.slice (some ad) bs.length cap] w fun e w' => e = .returned (.tuple #[.int .u64 0, .int .i64 0, e1]) ∧ ∃ n, w' = w.drewN n := by
  have HP := Lib.hid hp
  have HB := Lib.hid hb
  clear hp hb
  go_enter Tryd.func42, Tryd.ntmps42
  go_wp2_with fail
  go_loop [5, 10] (fun u i => ∃ (k q : Nat), k ≤ bs.length ∧ i = .int .i64 k ∧ u = .int .u64 q ∧ pars k q (bs.drop k) = (0, 0, 2) ∧ q < 128 ^ k ∧ k ≤ 9) (fun _ i => bs.length - (intOf i).toNat)
  case atStart => exact ⟨0, 0, by omega, rfl, rfl, HP.out, by decide, by omega⟩
  case round =>
    obtain ⟨k, q, hk, rfl, rfl, hpk, hq, hk9⟩ := hrel
    obtain ⟨hlt, hor⟩ := pars_at_shape hpk
    obtain ⟨hcell, hx2⟩ := HB.out k hlt
    generalize bs.getD k 0 = x at hor hcell hx2
    unfold bc at hcell
    have HQ := Lib.hid hq
    clear hpk hq
    rcases hor with hbad | ⟨hno, h128, hgo⟩
    · by_cases hn : k = 9 ∧ 1 < x
      · have h9t : (((k : Nat) : Int) == 9) = true := by simp; omega
        have hx1 : 1 < x := hn.2
        clear hn hbad
        go_wp2_with fail
        go_quiet (fail)
        go_wp2
        go_ret3
        exact ⟨rfl, _, rfl⟩
      · have hkp : 0 < k := by omega
        have hx0 : (((x : Nat) : Int) == 0) = true := by simp; omega
        have hx1 : x ≤ 1 := by omega
        by_cases h9 : k = 9
        · have h9t : (((k : Nat) : Int) == 9) = true := by simp; omega
          clear hn hbad h9
          go_wp2_with fail
          go_quiet (fail)
          go_wp2
          go_ret3
          exact ⟨rfl, _, rfl⟩
        · have h9t : (((k : Nat) : Int) == 9) = false := by simp; omega
          clear hn hbad h9
          go_wp2_with fail
          go_quiet (fail)
          go_wp2
          go_ret3
          exact ⟨rfl, _, rfl⟩
    · have HG := Lib.hid hgo
      have HN := Lib.hid hno
      clear hgo hno he
      have hk8 : k < 9 := by have := HN.out; omega
      have h9b : (((k : Nat) : Int) == 9) = false := by simp; omega
      have hx0 : (((x : Nat) : Int) == 0) = false := by simp; omega
      by_cases h0 : 0 < k
      · go_wp2_with fail
        go_round
        case rel => exact ⟨k + 1, q + x % 128 * 128 ^ k, by omega, by go_num, congrArg (Value.int IntKind.u64) (acc_step q x k hx2 HQ.out (pow_less q k HQ.out hk8 x).2), HG.out, (pow_less q k HQ.out hk8 x).1, by omega⟩
        case measure => simp [intOf]; omega
      · have hk0 : k ≤ 0 := by omega
        have d0 : decide (0 < k) = false := by simp; omega
        have d1 : decide ((0 : Int) < (k : Int)) = false := by simp; omega
        clear h0
        go_wp2_with fail
        go_round
        case rel => exact ⟨k + 1, q + x % 128 * 128 ^ k, by omega, by go_num, congrArg (Value.int IntKind.u64) (acc_step q x k hx2 HQ.out (pow_less q k HQ.out hk8 x).2), HG.out, (pow_less q k HQ.out hk8 x).1, by omega⟩
        case measure => simp [intOf]; omega
end Go.Proofs.YtggnaalcdekccaaDoor
