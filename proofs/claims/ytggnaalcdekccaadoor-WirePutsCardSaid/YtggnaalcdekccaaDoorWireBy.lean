/-
  turnkeyref.Bytes, SameBytes; the chapter's example; turnkeyworld.Number.
-/
import Derived.Test.YtggnaalcdekccaaDoorWirePut
namespace Go.Proofs.YtggnaalcdekccaaDoor
open Go.ChangeShapes Go.WideShapes Go.ChangeAt Go.RowKit
set_option linter.unusedVariables false
theorem src_of_own {w : World} {B : Nat} {v : Value} {n : Nat} {bs : List Nat} (h : w.ownsRow B 5 1 v n (bs.map bc)) (hx : ∀ x ∈ bs, x < 256) : ∃ a cap, v = .slice a bs.length cap ∧ SrcB w a bs ∧ (∀ ad, a = some ad → B ≤ ad.block ∧ ad.block < w.heap.size) ∧ bs.length ≤ cap ∧ cap ≤ maxLen := by
  have hn : n = bs.length := by have := h.1; simpa using this.symm
  subst hn
  rcases h.2 with ⟨rfl, h0⟩ | ⟨g, cap, cur, rfl, h1, h2, h3, h4, h5, h6⟩
  · have : bs = [] := List.eq_nil_of_length_eq_zero h0
    subst this
    exact ⟨none, 0, rfl, ⟨hx, fun _ => rfl, fun ad h => by cases h⟩, (fun ad h => by cases h), by simp, by simp⟩
  · refine ⟨some ⟨g, 0, none⟩, cap, rfl, ⟨hx, (fun h => by cases h), fun ad had => ?_⟩, fun ad had => ?_, h3, h4⟩
    · obtain rfl := Option.some.inj had
      intro i hi
      have ha : (⟨g, 0, none⟩ : Addr).add i = ⟨g, i, none⟩ := by unfold Addr.add; split <;> simp_all
      refine ⟨?_, hx _ (by rw [show bs.getD i 0 = bs[i] by simp [List.getD, hi]]; exact List.getElem_mem _)⟩
      rw [ha]
      have hc : cur[i]? = some (bc (bs.getD i 0)) := by
        have := congrArg (·[i]?) h6
        simp only [Nat.mul_one, List.getElem?_take, hi, if_true, List.getElem?_map] at this
        rw [← Array.getElem?_toList, this]
        simp [List.getD, hi]
      simp [World.cell?, h2, hc]
    · obtain rfl := Option.some.inj had
      exact ⟨h1, (Array.getElem?_eq_some_iff.1 h2).1⟩
theorem SrcB.below {B : Nat} {w w' : World} {a : Option Addr} {bs : List Nat} (h : SrcB w a bs) (hb : Below B w w') (hl : ∀ ad, a = some ad → ad.block < B) : SrcB w' a bs :=
  ⟨h.1, h.2.1, fun ad had => (h.2.2 ad had).below hb (hl ad had)⟩
theorem src_lt {w : World} {ad : Addr} {bs : List Nat} (h : BytesAt w ad bs) (h0 : 0 < bs.length) : ad.block < w.heap.size := by
  have := cell_lt2 (h 0 h0).1
  unfold Addr.add at this; split at this <;> exact this
set_option maxRecDepth 100000 in
set_option maxHeartbeats 1000000 in
theorem samebytes_any (a b : Option Addr) (ca cb : Nat) (xs ys : List Nat) (w : World) (hx : SrcB w a xs) (hy : SrcB w b ys) (lx : xs.length ≤ 1000000) (ly : ys.length ≤ 1000000) :
    Calls Tryd.prog 16 #[.slice a xs.length ca, .slice b ys.length cb] w fun e w' => e = .returned (.bool (decide (xs = ys))) ∧ Below w.heap.size w w' := by
  have HX := Lib.hid hx
  have HY := Lib.hid hy
  clear hx hy
  by_cases hl : xs.length = ys.length
  · have hlb : (((xs.length : Nat) : Int) == ((ys.length : Nat) : Int)) = true := beq_iff_eq.2 (by omega)
    have hln : (((xs.length : Nat) : Int) != ((ys.length : Nat) : Int)) = false := by rw [bne_eq_false_iff_eq]; omega
    have HL := Lib.hid hl
    clear hl
    go_enter Tryd.func16, Tryd.ntmps16
    go_wp2_with fail
    go_loopw [5] (fun i wr => ∃ k : Nat, k ≤ xs.length ∧ i = .int .i64 k ∧ xs.take k = ys.take k ∧ Below w.heap.size w wr) (fun i _ => xs.length - (intOf i).toNat)
    case atStart => exact ⟨0, by omega, rfl, rfl, Below.refl _ _⟩
    case round =>
      obtain ⟨k, hk, rfl, htk, hbel⟩ := hrel
      have HT := Lib.hid htk
      have HB := Lib.hid hbel
      clear htk hbel
      by_cases hlt : k < xs.length
      · have hlt' : k < ys.length := by have := HL.out; omega
        obtain ⟨ad, rfl⟩ : ∃ ad, a = some ad := by
          cases a with
          | none => have := HX.out.2.1 rfl; rw [this] at hlt; simp at hlt
          | some x => exact ⟨x, rfl⟩
        obtain ⟨bd, rfl⟩ : ∃ ad, b = some ad := by
          cases b with
          | none => have := HY.out.2.1 rfl; rw [this] at hlt'; simp at hlt'
          | some x => exact ⟨x, rfl⟩
        have hax := HX.out.2.2 ad rfl
        have hby := HY.out.2.2 bd rfl
        have c1 := ((hax.below HB.out (src_lt hax (by omega))) k hlt).1
        have c2 := ((hby.below HB.out (src_lt hby (by omega))) k hlt').1
        unfold bc at c1 c2
        have e1 : xs.take (k + 1) = xs.take k ++ [xs.getD k 0] := by rw [List.take_succ_eq_append_getElem hlt]; simp [List.getD, hlt]
        have e2 : ys.take (k + 1) = ys.take k ++ [ys.getD k 0] := by rw [List.take_succ_eq_append_getElem hlt']; simp [List.getD, hlt']
        generalize hg1 : xs.getD k 0 = x at c1 e1
        generalize hg2 : ys.getD k 0 = y at c2 e2
        have E1 := Lib.hid e1
        have E2 := Lib.hid e2
        have k0 : (0 : Int) ≤ (k : Int) := by omega
        have k1 : (k : Int) < (xs.length : Int) := by omega
        have k2 : (k : Int) < (ys.length : Int) := by omega
        clear hax hby e1 e2 hg1 hg2
        by_cases hxy : x = y
        · have hb1 : (((x : Nat) : Int) == ((y : Nat) : Int)) = true := beq_iff_eq.2 (by rw [hxy])
          have HXY := Lib.hid hxy
          clear hxy
          go_wp2_with fail
          go_quiet (fail)
          go_wp2
          go_roundw
          case rel => exact ⟨k + 1, by omega, by go_num, by rw [E1.out, E2.out, HT.out, HXY.out], below_drewN HB.out _⟩
          case measure => simp [intOf]; omega
        · have hb1 : (((x : Nat) : Int) == ((y : Nat) : Int)) = false := beq_eq_false_iff_ne.2 (by omega)
          have HXY := Lib.hid hxy
          clear hxy
          go_wp2_with fail
          go_quiet (fail)
          go_wp2
          go_ret
          refine ⟨?_, below_drewN HB.out _⟩
          have hne : xs ≠ ys := by
            intro e
            have h1 := E1.out
            have h2 := E2.out
            rw [e] at h1
            rw [h1] at h2
            have := List.append_cancel_left (h2.trans (by rfl) : ys.take k ++ [x] = ys.take k ++ [y])
            simp at this
            exact HXY.out this
          simp [hne]
      · have hge : xs.length ≤ k := by omega
        have hdd : decide (k < xs.length) = false := by simp; omega
        go_wp2
        go_ret
        refine ⟨?_, HB.out⟩
        have h1 := HT.out
        rw [List.take_of_length_le hge, List.take_of_length_le (by have := HL.out; omega)] at h1
        simp [h1]
  · have hlb : (((xs.length : Nat) : Int) == ((ys.length : Nat) : Int)) = false := by simp; omega
    have hln : (((xs.length : Nat) : Int) != ((ys.length : Nat) : Int)) = true := by simp; omega
    have HL := Lib.hid hl
    clear hl
    go_enter Tryd.func16, Tryd.ntmps16
    go_wp2
    go_ret
    refine ⟨?_, Below.refl _ _⟩
    have : xs ≠ ys := fun e => HL.out (by rw [e])
    simp [this]
set_option maxRecDepth 100000 in
set_option maxHeartbeats 1000000 in
theorem bytes_any (a : Option Addr) (cap : Nat) (bs : List Nat) (w : World) (hl : bs.length ≤ 10000) (hb : SrcB w a bs) :
    Calls Tryd.prog 13 #[.slice a bs.length cap] w fun e w' => ∃ v', e = .returned v' ∧ w'.ownsRow w.heap.size 5 1 v' bs.length (bs.map bc) ∧ Below w.heap.size w w' := by
  have HS := Lib.hid hb
  clear hb
  obtain ⟨i0, hi, hz0, hz1, hz2⟩ := info_parts infoByte
  have HI := Lib.hid (⟨hi, hz0, hz1, hz2⟩ : Tryd.prog.info? 5 = some i0 ∧ i0.zero = some (.int .u8 0) ∧ i0.size = 1 ∧ i0.bytes = 1)
  clear hi hz0 hz1 hz2
  go_enter Tryd.func13, Tryd.ntmps13
  go_wp2_with (first | (at_make; refine wpList_make_own _ rfl _ _ 22 rfl w.heap.size 5 i0 (.int .u8 0) 1 Tryd.underlying22 HI.out.1 HI.out.2.1 HI.out.2.2.1 .i64 .i64 _ bs.length rfl rfl (by omega) ?b2 ?b3 ?b4 ?_))
  case b2 => rw [HI.out.2.2.2]; omega
  case b3 => unfold maxLen; omega
  case b4 => exact Nat.le_refl _
  intro w1 hown hgrow
  have hb1 : Below w.heap.size w w1 := (Below.refl _ _).grown hgrow (Nat.le_refl _) (fun k hk => by cases hk)
  have HO := Lib.hid hown
  have HB1 := Lib.hid hb1
  clear hown hgrow hb1
  go_wp2_with fail
  go_loopw [3, 4] (fun b i wr => ∃ k : Nat, k ≤ bs.length ∧ i = .int .i64 k ∧ wr.ownsRow w.heap.size 5 1 b (bs.take k).length ((bs.take k).map bc) ∧ Below w.heap.size w wr ∧ w.heap.size ≤ wr.heap.size) (fun _ i _ => bs.length - (intOf i).toNat)
  case atStart => exact ⟨0, by omega, rfl, by simpa using HO.out, HB1.out, HB1.out.size⟩
  case round =>
    obtain ⟨k, hk, rfl, hown, hbel, hBr⟩ := hrel
    have HW := Lib.hid hown
    have HL := Lib.hid hbel
    clear hown hbel
    by_cases hlt : k < bs.length
    · obtain ⟨ad, rfl⟩ : ∃ ad, a = some ad := by
        cases a with
        | none => have := HS.out.2.1 rfl; rw [this] at hlt; simp at hlt
        | some x => exact ⟨x, rfl⟩
      have hax := HS.out.2.2 ad rfl
      have c1 := ((hax.below HL.out (src_lt hax (by omega))) k hlt).1
      unfold bc at c1
      have e1 : bs.take (k + 1) = bs.take k ++ [bs.getD k 0] := by rw [List.take_succ_eq_append_getElem hlt]; simp [List.getD, hlt]
      have hlk : (bs.take k).length = k := by simp; omega
      generalize bs.getD k 0 = x at c1 e1
      have E1 := Lib.hid e1
      have HK := Lib.hid hlk
      clear hax e1 hlk
      go_wp2_with (first | (at_builtin; refine wpList_append_own _ rfl _ _ 22 rfl w.heap.size 5 i0 (.int .u8 0) 1 1 Tryd.underlying22 HI.out.1 HI.out.2.1 HI.out.2.2.1 HI.out.2.2.2 rfl (by decide) _ _ _ rfl (HW.out.alloc _) ⟨wr.heap.size, 0, none⟩ 1 1 [.int .u8 x] rfl rfl ?c1 ?c2 ?c3 ?c4 ?c5 ?_))
      case c1 =>
        intro j u hj
        match j, hj with
        | 0, hj => simp at hj; subst hj; simp [Addr.add]
        | (j + 1), hj => simp at hj
      case c2 => intro u hu; simp at hu; subst hu; rfl
      case c3 => have := HK.out; unfold maxLen; omega
      case c4 => have := HK.out; omega
      case c5 => simp; omega
      intro v' w2 hown' hgrow' _
      have HB2 := Lib.hid (own_grown (HL.out.alloc hBr _) (by simp; omega) (HW.out.alloc _) hgrow' (.inl rfl))
      have hz2 : w.heap.size ≤ w2.heap.size := HB2.out.size
      have HO2 : Hid (w2.ownsRow w.heap.size 5 1 v' (bs.take (k + 1)).length ((bs.take (k + 1)).map bc)) := Lib.hid (by rw [E1.out, List.map_append, List.length_append, HK.out, List.map_take]; exact hown')
      clear hown' hgrow' c1
      go_wp2
      go_roundw
      case rel => exact ⟨k + 1, by omega, by go_num, HO2.out, HB2.out, hz2⟩
      case measure => simp [intOf]; omega
    · have hge : bs.length ≤ k := by omega
      have hdd : decide (k < bs.length) = false := by simp; omega
      go_wp2
      go_ret
      refine ⟨_, rfl, ?_, HL.out⟩
      have := HW.out
      rw [List.take_of_length_le hge] at this
      exact this
theorem zig_m1 : zig (-1) = 1 := by decide
theorem encs_first : encs [-1, 64] = [1, 128, 1] := by
  have h1 : enc (zig (-1)) = [1] := enc_lt (by decide)
  have h2 : enc (zig 64) = [128, 1] := by rw [show zig 64 = 128 by decide, enc_ge (by decide), enc_lt (by decide)]
  simp [encs, h1, h2]
def OutB (w w' : World) (bs : List Nat) (e : Ending) : Prop := ∃ a c, e = .returned (.slice a bs.length c) ∧ SrcB w' a bs ∧ (∀ ad, a = some ad → w.heap.size ≤ ad.block ∧ ad.block < w'.heap.size) ∧ bs.length ≤ c ∧ c ≤ maxLen ∧ Below w.heap.size w w'
theorem outB_of {w w' : World} {v : Value} {n : Nat} {bs : List Nat} (h : w'.ownsRow w.heap.size 5 1 v n (bs.map bc)) (hx : ∀ x ∈ bs, x < 256) (hb : Below w.heap.size w w') : OutB w w' bs (.returned v) := by
  obtain ⟨a, c, rfl, h1, h2, h3, h4⟩ := src_of_own h hx
  exact ⟨a, c, rfl, h1, h2, h3, h4, hb⟩
theorem put_out (a la : Option Addr) (cap lcap : Nat) (bs : List Nat) (ns : List Int) (w : World) (hl : bs.length ≤ 10000) (hn : ns.length ≤ 1000) (hb : SrcB w a bs) (hs : SrcL w la ns) :
    Calls Tryd.prog 15 #[.slice a bs.length cap, .slice la ns.length lcap] w fun e w' => OutB w w' (bs ++ encs ns) e :=
  (put_any a la cap lcap bs ns w hl hn hb hs).mono fun e w' ⟨v, he, ho, hbel⟩ => he ▸ outB_of ho (by intro x hx; rcases List.mem_append.1 hx with h | h; exact hb.1 x h; exact encs_byte ns x h) hbel
theorem put_nil_out (la : Option Addr) (cap lcap nl : Nat) (ns : List Int) (w : World) (hnl : nl = ns.length) (hn : ns.length ≤ 1000) (hs : SrcL w la ns) :
    Calls Tryd.prog 15 #[.slice none 0 cap, .slice la nl lcap] w fun e w' => OutB w w' (encs ns) e := by
  subst hnl
  exact (put_nil la cap lcap ns w hn hs).mono fun e w' ⟨v, he, ho, hbel⟩ => he ▸ outB_of ho (encs_byte ns) hbel
theorem bytes_out (a : Option Addr) (cap : Nat) (bs : List Nat) (w : World) (hl : bs.length ≤ 10000) (hb : SrcB w a bs) :
    Calls Tryd.prog 13 #[.slice a bs.length cap] w fun e w' => OutB w w' bs e :=
  (bytes_any a cap bs w hl hb).mono fun e w' ⟨v, he, ho, hbel⟩ => he ▸ outB_of ho hb.1 hbel
theorem same_is2 (a b : Option Addr) (ca cb nx ny : Nat) (xs ys : List Nat) (t : Bool) (w : World) (hnx : nx = xs.length) (hny : ny = ys.length) (ht : decide (xs = ys) = t) (hx : SrcB w a xs) (hy : SrcB w b ys) (lx : xs.length ≤ 1000000) (ly : ys.length ≤ 1000000) :
    Calls Tryd.prog 16 #[.slice a nx ca, .slice b ny cb] w fun e w' => e = .returned (.bool t) ∧ Below w.heap.size w w' := by
  subst hnx hny ht
  exact samebytes_any a b ca cb xs ys w hx hy lx ly
theorem srcL_two (w : World) (x y : Int) (t : TypeId) (hx : -9223372036854775808 ≤ x ∧ x ≤ 9223372036854775807) (hy : -9223372036854775808 ≤ y ∧ y ≤ 9223372036854775807) : SrcL (w.alloc (.cells #[.int .i64 x, .int .i64 y] t)) (some ⟨w.heap.size, 0, none⟩) [x, y] := by
  refine ⟨by simp [hx, hy], (fun h => by cases h), fun ad had => ?_⟩
  obtain rfl := Option.some.inj had
  intro i hi
  match i, hi with
  | 0, _ => exact ⟨by simp [Addr.add], hx⟩
  | 1, _ => exact ⟨by simp [Addr.add], hy⟩
theorem srcL_one (w : World) (x : Int) (t : TypeId) (hx : -9223372036854775808 ≤ x ∧ x ≤ 9223372036854775807) : SrcL (w.alloc (.cells #[.int .i64 x] t)) (some ⟨w.heap.size, 0, none⟩) [x] := by
  refine ⟨by simp [hx], (fun h => by cases h), fun ad had => ?_⟩
  obtain rfl := Option.some.inj had
  intro i hi
  match i, hi with
  | 0, _ => exact ⟨by simp [Addr.add], hx⟩
theorem srcB_three (w : World) (x y z : Nat) (t : TypeId) (hx : x < 256) (hy : y < 256) (hz : z < 256) : SrcB (w.alloc (.cells #[.int .u8 x, .int .u8 y, .int .u8 z] t)) (some ⟨w.heap.size, 0, none⟩) [x, y, z] := by
  refine ⟨by simp [hx, hy, hz], (fun h => by cases h), fun ad had => ?_⟩
  obtain rfl := Option.some.inj had
  intro i hi
  match i, hi with
  | 0, _ => exact ⟨by simp [Addr.add, bc], hx⟩
  | 1, _ => exact ⟨by simp [Addr.add, bc], hy⟩
  | 2, _ => exact ⟨by simp [Addr.add, bc], hz⟩
set_option maxRecDepth 100000 in
theorem wfirst_any (w : World) : Calls Tryd.prog 12 #[] w fun e w' => e = .returned (.bool true) ∧ Below w.heap.size w w' := by
  go_enter Tryd.func12, Tryd.ntmps12
  go_wp2_with fail
  refine (put_nil_out (some ⟨w.heap.size, 0, none⟩) 0 2 2 [-1, 64] _ rfl (by decide) (srcL_two w (-1) 64 _ (by decide) (by decide))).mono ?_
  rintro e w1 ⟨a, c, rfl, hs, ha, hc1, hc2, hb⟩
  have HS := Lib.hid hs
  have HA := Lib.hid ha
  have HB := Lib.hid hb
  clear hs ha hb hc1 hc2
  go_wp2_with fail
  refine (same_is2 a (some ⟨w1.heap.size, 0, none⟩) c 3 (encs [-1, 64]).length 3 (encs [-1, 64]) [1, 128, 1] true _ rfl rfl (by rw [encs_first]; decide) (HS.out.below ((Below.refl w1.heap.size w1).alloc (Nat.le_refl _) _) (fun ad had => (HA.out ad had).2)) (srcB_three w1 1 128 1 _ (by decide) (by decide) (by decide)) (by rw [encs_first]; decide) (by decide)).mono ?_
  rintro e w2 ⟨rfl, hb2⟩
  go_wp2
  go_ret
  refine ⟨rfl, ?_⟩
  exact (((Below.refl w.heap.size w).alloc (Nat.le_refl _) _).trans (HB.out.mono (by simp))).trans ((((Below.refl w1.heap.size w1).alloc (Nat.le_refl _) _).trans (hb2.mono (by simp))).mono (by have := HB.out.size; simp at this; omega))
theorem tmod_fix (n b : Int) (hb : 0 < b) : (if n.tmod b < 0 then n.tmod b + b else n.tmod b) = n % b := by
  have h1 := Int.mul_tdiv_add_tmod n b
  have h2 := Int.tmod_lt_of_pos n hb
  have h3 := Int.lt_tmod_of_pos n hb
  have h4 : n % b = (n.tmod b) % b := by
    conv => lhs; rw [← h1]
    rw [Int.add_comm, Int.add_mul_emod_self_left]
  rw [h4]
  split
  · have : (n.tmod b) % b = (n.tmod b + b) % b := by simp
    rw [this, Int.emod_eq_of_lt (by omega) (by omega)]
  · rw [Int.emod_eq_of_lt (by omega) (by omega)]
theorem ret_i64 {a b : Int} (h : a = b) : Ending.returned (.int .i64 a) = .returned (.int .i64 b) := by rw [h]
theorem num_any (n b : Int) (hb : 0 < b) (hb2 : b ≤ 1000000) (h1 : -9223372036854775808 ≤ n) (h2 : n ≤ 9223372036854775807) (w : World) :
    Calls Tryd.prog 25 #[.int .i64 n, .int .i64 b] w fun e w' => e = .returned (.int .i64 (n % b)) ∧ w = w' := by
  have hz : (b == 0) = false := beq_eq_false_iff_ne.2 (by omega)
  have E := Lib.hid (tmod_fix n b hb)
  have l1 := Int.tmod_lt_of_pos n hb
  have l2 := Int.lt_tmod_of_pos n hb
  by_cases hr : n.tmod b < 0
  · have hd : decide (n.tmod b < 0) = true := by simpa using hr
    have E2 : wrap64 (n.tmod b + b) = n % b := by rw [← E.out, if_pos hr]; unfold wrap64; omega
    have E3 := Lib.hid E2
    clear E2
    go_enter Tryd.func25, Tryd.ntmps25
    go_wp2_with fail
    go_ret
    exact ⟨ret_i64 (by first | exact E3.out | (rw [← E.out, if_pos hr])), rfl⟩
  · have hd : decide (n.tmod b < 0) = false := by simpa using hr
    go_enter Tryd.func25, Tryd.ntmps25
    go_wp2_with fail
    go_ret
    exact ⟨ret_i64 (by rw [← E.out, if_neg (by omega)]), rfl⟩
end Go.Proofs.YtggnaalcdekccaaDoor
