/-
  wire.Put; turnkeyref.Bytes, SameBytes: contracts.
-/
import Derived.Test.YtggnaalcdekccaaDoorWireRd
namespace Go.Proofs.YtggnaalcdekccaaDoor
open Go.ChangeShapes Go.WideShapes Go.ChangeAt Go.RowKit
set_option linter.unusedVariables false
/-- Longs that lie in memory from an address on. -/
def LongsAt (w : World) (ad : Addr) (ns : List Int) : Prop := ∀ i, i < ns.length → w.cell? (ad.add i) = some (.int .i64 (ns.getD i 0)) ∧ -9223372036854775808 ≤ ns.getD i 0 ∧ ns.getD i 0 ≤ 9223372036854775807
/-- The bytes of numbers, one behind the other. -/
def encs (ns : List Int) : List Nat := ns.flatMap fun n => enc (zig n)
theorem encs_snoc (ns : List Int) (k : Nat) (hk : k < ns.length) : encs (ns.take (k + 1)) = encs (ns.take k) ++ enc (zig (ns.getD k 0)) := by
  rw [List.take_succ_eq_append_getElem hk]
  simp only [encs, List.flatMap_append, List.flatMap_cons, List.flatMap_nil, List.append_nil]
  rw [show ns.getD k 0 = ns[k] by simp [List.getD, hk]]
theorem encs_len (ns : List Int) (h : ∀ n ∈ ns, -9223372036854775808 ≤ n ∧ n ≤ 9223372036854775807) : (encs ns).length ≤ 10 * ns.length := by
  induction ns with
  | nil => simp [encs]
  | cons a r ih =>
    have h1 := enc_len10 (zig_lt (h a (by simp)).1 (h a (by simp)).2)
    have h2 := ih (fun n hn => h n (by simp [hn]))
    simp only [encs, List.flatMap_cons, List.length_append, List.length_cons] at h2 ⊢
    omega
theorem enc_byte' (u : Nat) : ∀ x ∈ enc u, x < 256 := enc_byte u u (Nat.le_refl _)
theorem encs_byte (ns : List Int) : ∀ x ∈ encs ns, x < 256 := by
  intro x hx
  simp only [encs, List.mem_flatMap] at hx
  obtain ⟨n, _, h⟩ := hx
  exact enc_byte' _ x h
theorem u64_wrap_is (n : Int) : IntKind.u64.wrap n = n % 18446744073709551616 := by simp [IntKind.wrap, IntKind.bits, IntKind.signed]
theorem u64_xor_ones (a : Nat) (ha : a < 18446744073709551616) : bits BinOp.xor IntKind.u64 (a : Int) 18446744073709551615 = 18446744073709551615 - (a : Int) := by
  show IntKind.u64.wrap ((BitVec.ofInt 64 (a : Int) ^^^ BitVec.ofInt 64 18446744073709551615).toNat : Int) = _
  rw [show BitVec.ofInt 64 18446744073709551615 = BitVec.allOnes 64 by decide, BitVec.xor_allOnes, BitVec.toNat_not, ofInt_u64 a ha, u64_wrap_is]
  omega
theorem u64_xor_zero (a : Nat) (ha : a < 18446744073709551616) : bits BinOp.xor IntKind.u64 (a : Int) 0 = (a : Int) := by
  show IntKind.u64.wrap ((BitVec.ofInt 64 (a : Int) ^^^ BitVec.ofInt 64 0).toNat : Int) = _
  rw [show BitVec.ofInt 64 0 = 0#64 from rfl, BitVec.xor_zero, ofInt_u64 a ha, u64_wrap_is]
  omega
theorem zig_bits (n : Int) (h1 : -9223372036854775808 ≤ n) (h2 : n ≤ 9223372036854775807) : bits BinOp.xor IntKind.u64 (IntKind.u64.wrap (IntKind.u64.wrap n * 2)) (IntKind.u64.wrap (n / 9223372036854775808)) = (zig n : Int) := by
  rw [u64_wrap_is, u64_wrap_is, u64_wrap_is]
  unfold zig
  by_cases h : 0 ≤ n
  · have e1 : n % 18446744073709551616 * 2 % 18446744073709551616 = (((2 * n).toNat : Nat) : Int) := by omega
    have e2 : n / 9223372036854775808 % 18446744073709551616 = 0 := by omega
    rw [e1, e2, u64_xor_zero _ (by omega), if_pos h]
  · have e1 : n % 18446744073709551616 * 2 % 18446744073709551616 = (((2 * n + 18446744073709551616).toNat : Nat) : Int) := by omega
    have e2 : n / 9223372036854775808 % 18446744073709551616 = 18446744073709551615 := by omega
    rw [e1, e2, u64_xor_ones _ (by omega), if_neg h]
    omega
theorem putone_arg (B n : Nat) (v : Value) (xs : List Value) (m0 : Nat) (arg : Int) (w : World) (hown : w.ownsRow B 5 1 v n xs) (hB : B ≤ w.heap.size) (hn : n ≤ 1000000) (hu : m0 < 18446744073709551616) (ha : arg = (m0 : Int)) :
    Calls Tryd.prog 41 #[v, .int .u64 arg] w fun e w' => ∃ v', e = .returned v' ∧ w'.ownsRow B 5 1 v' (n + (enc m0).length) (xs ++ (enc m0).map bc) ∧ Below B w w' := by
  subst ha; exact putone_any B n v xs m0 w hown hB hn hu
/-- A slice of bytes, as the callees ask it. -/
def SrcB (w : World) (a : Option Addr) (bs : List Nat) : Prop := (∀ x ∈ bs, x < 256) ∧ (a = none → bs = []) ∧ ∀ ad, a = some ad → BytesAt w ad bs
def SrcL (w : World) (a : Option Addr) (ns : List Int) : Prop := (∀ n ∈ ns, -9223372036854775808 ≤ n ∧ n ≤ 9223372036854775807) ∧ (a = none → ns = []) ∧ ∀ ad, a = some ad → LongsAt w ad ns
theorem own_grown2 {B : Nat} {w wr w1 : World} {row : Option Nat} {v : Value} {n : Nat} {xs : List Value} {E : TypeId} (hb : Below B w wr) (hB : B ≤ wr.heap.size) (hown : wr.ownsRow B E 1 v n xs) (hg : wr.grownBy w1 row) (hr : row = v.ownBlock) : Below B w w1 := own_grown hb hB hown hg (.inl hr)
set_option maxRecDepth 100000 in
set_option maxHeartbeats 2000000 in
theorem put_nil (la : Option Addr) (cap lcap : Nat) (ns : List Int) (w : World) (hn : ns.length ≤ 1000) (hs : SrcL w la ns) :
    Calls Tryd.prog 15 #[.slice (none) 0 cap, .slice la ns.length lcap] w fun e w' => ∃ v', e = .returned v' ∧ w'.ownsRow w.heap.size 5 1 v' (([] : List Nat) ++ encs ns).length ((([] : List Nat) ++ encs ns).map bc) ∧ Below w.heap.size w w' := by
  have HS := Lib.hid hs
  clear hs
  obtain ⟨i0, hi, hz0, hz1, hz2⟩ := info_parts infoByte
  have HI := Lib.hid (⟨hi, hz0, hz1, hz2⟩ : Tryd.prog.info? 5 = some i0 ∧ i0.zero = some (.int .u8 0) ∧ i0.size = 1 ∧ i0.bytes = 1)
  clear hi hz0 hz1 hz2
  go_enter Tryd.func15, Tryd.ntmps15
  go_wp2_with (first | (at_make; refine wpList_make_own _ rfl _ _ 22 rfl w.heap.size 5 i0 (.int .u8 0) 1 Tryd.underlying22 HI.out.1 HI.out.2.1 HI.out.2.2.1 .i64 .i64 _ (ns.length) rfl rfl (by omega) ?b2 ?b3 ?b4 ?_))
  case b2 => rw [HI.out.2.2.2]; omega
  case b3 => unfold maxLen; omega
  case b4 => exact Nat.le_refl _
  intro w1 hown hgrow
  have hb1 : Below w.heap.size w w1 := (Below.refl _ _).grown hgrow (Nat.le_refl _) (fun k hk => by cases hk)
  have hz1 : w.heap.size ≤ w1.heap.size := hb1.size
  have HO := Lib.hid hown
  have HB1 := Lib.hid hb1
  clear hown hgrow hb1
  have HX : Hid (w1.ownsRow w.heap.size 5 1 (.slice (some ⟨w.heap.size, 0, none⟩) 0 ns.length) ([] : List Nat).length (([] : List Nat).map bc)) := HO
  have HBX := HB1
  go_wp2_with fail
  go_loopw [5, 19] (fun b i wr => ∃ k : Nat, k ≤ ns.length ∧ i = .int .i64 k ∧ wr.ownsRow w.heap.size 5 1 b (([] : List Nat) ++ encs (ns.take k)).length ((([] : List Nat) ++ encs (ns.take k)).map bc) ∧ Below w.heap.size w wr ∧ w.heap.size ≤ wr.heap.size) (fun _ i _ => ns.length - (intOf i).toNat)
  case atStart => exact ⟨0, by omega, rfl, by have := HX.out; simpa [encs] using this, HBX.out, HBX.out.size⟩
  case round =>
    obtain ⟨k, hk, rfl, hown, hbel, hBr⟩ := hrel
    by_cases hlt : k < ns.length
    · obtain ⟨lad, rfl⟩ : ∃ lad, la = some lad := by
        cases la with
        | none => have := HS.out.2.1 rfl; rw [this] at hlt; simp at hlt
        | some x => exact ⟨x, rfl⟩
      obtain ⟨hcell, hr⟩ := HS.out.2.2 lad rfl k hlt
      have hll : lad.block < w.heap.size := by
        have := cell_lt2 hcell
        unfold Addr.add at this; split at this <;> exact this
      have hcell1 : wr.cell? (lad.add k) = some (.int .i64 (ns.getD k 0)) := (hbel.cell (p := lad.add k) (by unfold Addr.add; split <;> exact hll)).trans hcell
      have hlen : (encs (ns.take k)).length ≤ 10 * k := by
        have := encs_len (ns.take k) (fun n hn => HS.out.1 n (List.mem_of_mem_take hn))
        simp at this; omega
      have hsn := encs_snoc ns k hlt
      obtain ⟨n, hnn⟩ : ∃ n, n = ns.getD k 0 := ⟨_, rfl⟩
      rw [← hnn] at hcell1 hr hsn
      have HSN := Lib.hid hsn
      have HR := Lib.hid hr
      have HW := Lib.hid hown
      have HL := Lib.hid hbel
      clear hcell hsn hr hown hnn hbel
      go_wp2_with (first | (go_at_call 41; refine (putone_arg w.heap.size _ _ _ (zig n) _ _ HW.out hBr ?_ (zig_lt HR.out.1 HR.out.2) (zig_bits n HR.out.1 HR.out.2)).mono ?_; (first | (simp only [List.length_append]; omega) | (simp; omega)); rintro e w5 ⟨v5, rfl, hown5, hb5⟩))
      have HB5 := Lib.hid (HL.out.trans hb5)
      have hz5 : w.heap.size ≤ w5.heap.size := Nat.le_trans hBr hb5.size
      have HO5 : Hid (w5.ownsRow w.heap.size 5 1 v5 (([] : List Nat) ++ encs (ns.take (k + 1))).length ((([] : List Nat) ++ encs (ns.take (k + 1))).map bc)) := Lib.hid (by rw [HSN.out, ← List.append_assoc, List.map_append, List.length_append]; exact hown5)
      clear hown5 hb5 hcell1
      go_wp2
      go_roundw
      case rel => first | exact ⟨k + 1, by omega, by go_num, HO5.out, HB5.out, hz5⟩ | ((repeat apply Exists.intro); exact ⟨⟨k + 1, by omega, by go_num, HO5.out, HB5.out, hz5⟩, rfl⟩)
      case measure => simp [intOf]; omega
    · have hge : ns.length ≤ k := by omega
      have hdd : decide (k < ns.length) = false := by simp; omega
      have HW := Lib.hid hown
      have HL := Lib.hid hbel
      clear hown hbel
      go_wp2
      go_ret
      refine ⟨_, rfl, ?_, HL.out⟩
      have := HW.out
      rw [List.take_of_length_le hge] at this
      exact this
set_option maxRecDepth 100000 in
set_option maxHeartbeats 2000000 in
theorem put_some (ad : Addr) (la : Option Addr) (cap lcap : Nat) (bs : List Nat) (ns : List Int) (w : World) (hl : bs.length ≤ 10000) (hn : ns.length ≤ 1000) (hb : SrcB w (some ad) bs) (hs : SrcL w la ns) :
    Calls Tryd.prog 15 #[.slice (some ad) bs.length cap, .slice la ns.length lcap] w fun e w' => ∃ v', e = .returned v' ∧ w'.ownsRow w.heap.size 5 1 v' (bs ++ encs ns).length ((bs ++ encs ns).map bc) ∧ Below w.heap.size w w' := by
  have HB := Lib.hid hb
  clear hb
  have HS := Lib.hid hs
  clear hs
  obtain ⟨i0, hi, hz0, hz1, hz2⟩ := info_parts infoByte
  have HI := Lib.hid (⟨hi, hz0, hz1, hz2⟩ : Tryd.prog.info? 5 = some i0 ∧ i0.zero = some (.int .u8 0) ∧ i0.size = 1 ∧ i0.bytes = 1)
  clear hi hz0 hz1 hz2
  go_enter Tryd.func15, Tryd.ntmps15
  go_wp2_with (first | (at_make; refine wpList_make_own _ rfl _ _ 22 rfl w.heap.size 5 i0 (.int .u8 0) 1 Tryd.underlying22 HI.out.1 HI.out.2.1 HI.out.2.2.1 .i64 .i64 _ (bs.length + ns.length) rfl rfl (by omega) ?b2 ?b3 ?b4 ?_))
  case b2 => rw [HI.out.2.2.2]; omega
  case b3 => unfold maxLen; omega
  case b4 => exact Nat.le_refl _
  intro w1 hown hgrow
  have hb1 : Below w.heap.size w w1 := (Below.refl _ _).grown hgrow (Nat.le_refl _) (fun k hk => by cases hk)
  have hz1 : w.heap.size ≤ w1.heap.size := hb1.size
  have HO := Lib.hid hown
  have HB1 := Lib.hid hb1
  clear hown hgrow hb1
  go_wp2_with (first | (at_builtin; refine wpList_append_own _ rfl _ _ 22 rfl w.heap.size 5 i0 (.int .u8 0) 1 1 Tryd.underlying22 HI.out.1 HI.out.2.1 HI.out.2.2.1 HI.out.2.2.2 rfl (by decide) _ _ _ rfl HO.out ad bs.length cap (bs.map bc) rfl (by simp) ?c1 ?c2 ?c3 ?c4 ?c5 ?_))
  case c1 =>
    intro j u hj
    rw [List.getElem?_map] at hj
    obtain ⟨x, hx1, hx2⟩ := Option.map_eq_some_iff.1 hj
    obtain ⟨hjl, hjx⟩ := List.getElem?_eq_some_iff.1 hx1
    have h1 := (HB.out.2.2 ad rfl j hjl).1
    rw [show bs.getD j 0 = x by simp [List.getD, hx1], hx2] at h1
    have hal : ad.block < w.heap.size := by
      have := cell_lt2 h1
      unfold Addr.add at this; split at this <;> exact this
    exact (HB1.out.cell (p := ad.add j) (by unfold Addr.add; split <;> exact hal)).trans h1
  case c2 => intro u hu; simp at hu; obtain ⟨x, _, rfl⟩ := hu; rfl
  case c3 => unfold maxLen; omega
  case c4 => omega
  case c5 => exact hz1
  intro v1 w2 hown2 hgrow2 _
  have HX : Hid (w2.ownsRow w.heap.size 5 1 v1 bs.length (bs.map bc)) := Lib.hid (by simpa using hown2)
  have HBX := Lib.hid (own_grown2 HB1.out hz1 HO.out hgrow2 rfl)
  clear hown2 hgrow2
  go_wp2_with fail
  go_loopw [5, 19] (fun b i wr => ∃ k : Nat, k ≤ ns.length ∧ i = .int .i64 k ∧ wr.ownsRow w.heap.size 5 1 b (bs ++ encs (ns.take k)).length ((bs ++ encs (ns.take k)).map bc) ∧ Below w.heap.size w wr ∧ w.heap.size ≤ wr.heap.size) (fun _ i _ => ns.length - (intOf i).toNat)
  case atStart => exact ⟨0, by omega, rfl, by have := HX.out; simpa [encs] using this, HBX.out, HBX.out.size⟩
  case round =>
    obtain ⟨k, hk, rfl, hown, hbel, hBr⟩ := hrel
    by_cases hlt : k < ns.length
    · obtain ⟨lad, rfl⟩ : ∃ lad, la = some lad := by
        cases la with
        | none => have := HS.out.2.1 rfl; rw [this] at hlt; simp at hlt
        | some x => exact ⟨x, rfl⟩
      obtain ⟨hcell, hr⟩ := HS.out.2.2 lad rfl k hlt
      have hll : lad.block < w.heap.size := by
        have := cell_lt2 hcell
        unfold Addr.add at this; split at this <;> exact this
      have hcell1 : wr.cell? (lad.add k) = some (.int .i64 (ns.getD k 0)) := (hbel.cell (p := lad.add k) (by unfold Addr.add; split <;> exact hll)).trans hcell
      have hlen : (encs (ns.take k)).length ≤ 10 * k := by
        have := encs_len (ns.take k) (fun n hn => HS.out.1 n (List.mem_of_mem_take hn))
        simp at this; omega
      have hsn := encs_snoc ns k hlt
      obtain ⟨n, hnn⟩ : ∃ n, n = ns.getD k 0 := ⟨_, rfl⟩
      rw [← hnn] at hcell1 hr hsn
      have HSN := Lib.hid hsn
      have HR := Lib.hid hr
      have HW := Lib.hid hown
      have HL := Lib.hid hbel
      clear hcell hsn hr hown hnn hbel
      go_wp2_with (first | (go_at_call 41; refine (putone_arg w.heap.size _ _ _ (zig n) _ _ HW.out hBr ?_ (zig_lt HR.out.1 HR.out.2) (zig_bits n HR.out.1 HR.out.2)).mono ?_; (first | (simp only [List.length_append]; omega) | (simp; omega)); rintro e w5 ⟨v5, rfl, hown5, hb5⟩))
      have HB5 := Lib.hid (HL.out.trans hb5)
      have hz5 : w.heap.size ≤ w5.heap.size := Nat.le_trans hBr hb5.size
      have HO5 : Hid (w5.ownsRow w.heap.size 5 1 v5 (bs ++ encs (ns.take (k + 1))).length ((bs ++ encs (ns.take (k + 1))).map bc)) := Lib.hid (by rw [HSN.out, ← List.append_assoc, List.map_append, List.length_append]; exact hown5)
      clear hown5 hb5 hcell1
      go_wp2
      go_roundw
      case rel => first | exact ⟨k + 1, by omega, by go_num, HO5.out, HB5.out, hz5⟩ | ((repeat apply Exists.intro); exact ⟨⟨k + 1, by omega, by go_num, HO5.out, HB5.out, hz5⟩, rfl⟩)
      case measure => simp [intOf]; omega
    · have hge : ns.length ≤ k := by omega
      have hdd : decide (k < ns.length) = false := by simp; omega
      have HW := Lib.hid hown
      have HL := Lib.hid hbel
      clear hown hbel
      go_wp2
      go_ret
      refine ⟨_, rfl, ?_, HL.out⟩
      have := HW.out
      rw [List.take_of_length_le hge] at this
      exact this
theorem put_any (a la : Option Addr) (cap lcap : Nat) (bs : List Nat) (ns : List Int) (w : World) (hl : bs.length ≤ 10000) (hn : ns.length ≤ 1000) (hb : SrcB w a bs) (hs : SrcL w la ns) :
    Calls Tryd.prog 15 #[.slice a bs.length cap, .slice la ns.length lcap] w fun e w' => ∃ v', e = .returned v' ∧ w'.ownsRow w.heap.size 5 1 v' (bs ++ encs ns).length ((bs ++ encs ns).map bc) ∧ Below w.heap.size w w' := by
  cases a with
  | none => obtain rfl : bs = [] := hb.2.1 rfl
            exact put_nil la cap lcap ns w hn hs
  | some ad => exact put_some ad la cap lcap bs ns w hl hn hb hs
end Go.Proofs.YtggnaalcdekccaaDoor
