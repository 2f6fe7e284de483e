/-
  turnkeyref1: Split, Number, operand, How, OpName.
-/
import Derived.Test.YtaekccgcnlepaaaGreatDoorLr
namespace Go.Proofs.YtaekccgcnlepaaaGreatDoor
open Go.ChangeShapes Go.WideShapes Go.ChangeAt Go.RowKit Go.Maps
set_option linter.unusedVariables false
set_option linter.unusedSimpArgs false
theorem split_step (cur : List UInt8) (b : UInt8) (r : List UInt8) (h : b ≠ 32) : splitFrom cur (b :: r) = splitFrom (cur ++ [b]) r := by rw [splitFrom, if_neg h]
theorem split_sp0 (r : List UInt8) : splitFrom [] (32 :: r) = splitFrom [] r := by rw [splitFrom, if_pos rfl, if_pos rfl]
theorem ext_one (s : ByteArray) (k : Nat) (h : k < s.size) : (s.extract k (k + 1)).data.toList = [s[k]'h] ∧ (s.extract k (k + 1)).size = 1 := by
  have e : (s.extract k (k + 1)).data.toList = [s[k]'h] := by
    rw [extract_list, show k + 1 - k = 1 by omega]
    have hk : k < s.data.toList.length := by rw [ba_len]; exact h
    have hg := ba_get s k h
    rw [List.drop_eq_getElem_cons hk]
    simp only [List.take_succ_cons, List.take_zero]
    rw [List.getElem?_eq_getElem hk] at hg
    injection hg with hg
    rw [hg]
  exact ⟨e, by rw [← ba_len, e]; rfl⟩
theorem ba_nil (s : ByteArray) (h : s.toList = []) : s = ⟨#[]⟩ := by
  rw [Lib.toList_data] at h
  cases s
  congr
  exact Array.toList_eq_nil_iff.1 h
set_option maxRecDepth 100000 in
set_option maxHeartbeats 4000000 in
theorem rsplit_is (s : ByteArray) (hs : s.size ≤ 900) (w : World) :
    Calls Tryz.prog 15 #[.string s] w fun e w' => ∃ ad n cp, e = .returned (.slice ad n cp) ∧ LR w w' w.heap.size (.slice ad n cp) (tokB s) n := by
  obtain ⟨i0, hi, hz0, hz1, hz2⟩ := info_parts infoStr
  have HI := Lib.hid (⟨hi, hz0, hz1, hz2⟩ : Tryz.prog.info? 9 = some i0 ∧ i0.zero = some (.string ⟨#[]⟩) ∧ i0.size = 1 ∧ i0.bytes = 16)
  have HW1 : Hid (w.heap.size ≤ w.heap.size ∧ w.heap.size ≤ w.heap.size) := Lib.hid ⟨Nat.le_refl _, Nat.le_refl _⟩
  clear hi hz0 hz1 hz2
  go_enter Tryz.func15, Tryz.ntmps15
  go_wp2_with fail
  go_loopw [3, 4, 5] (fun l wv i wr => ∃ (k m cp : Nat) (ad : Option Addr) (acc : List ByteArray) (cur : ByteArray), k ≤ s.size + 1 ∧ i = .int .i64 k ∧ l = .slice ad m cp ∧ wv = .string cur ∧ cur.size ≤ k ∧ m ≤ k ∧ LR w wr w.heap.size (.slice ad m cp) acc m ∧ tokB s = acc ++ (splitFrom cur.data.toList (s.data.toList.drop k)).map (fun l => ⟨l.toArray⟩) ∧ (k = s.size + 1 → cur = ⟨#[]⟩)) (fun _ _ i _ => s.size + 1 - (intOf i).toNat)
  case atStart => exact ⟨0, 0, 0, none, [], ⟨#[]⟩, by omega, rfl, rfl, rfl, by decide, by omega, ⟨World.ownsRow_nil _ _ _ _, Below.refl _ _, rfl, Nat.le_refl _⟩, rfl, by omega⟩
  case round =>
    obtain ⟨k, m, cp, ad, acc, cur, hk, rfl, rfl, rfl, hcz, hmk, hLR, htok, hend⟩ := hrel
    have HL := Lib.hid hLR
    have HT := Lib.hid htok
    have HE := Lib.hid hend
    have HSz : Hid (w.heap.size ≤ wr.heap.size) := Lib.hid hLR.bel.size
    clear hLR htok hend
    by_cases hlt : k < s.size
    · have k0 : (0 : Int) ≤ (k : Int) := by omega
      have k1 : (k : Int) ≤ (s.size : Int) := by omega
      have k2 : (k : Int) < (s.size : Int) := by omega
      obtain ⟨hx1, hx2⟩ := ext_one s k hlt
      have hdr : s.data.toList.drop k = s[k]'hlt :: s.data.toList.drop (k + 1) := by
        have hk2 : k < s.data.toList.length := by rw [ba_len]; exact hlt
        have hg := ba_get s k hlt
        rw [List.getElem?_eq_getElem hk2] at hg
        injection hg with hg
        rw [List.drop_eq_getElem_cons hk2, hg]
      have HDr := Lib.hid hdr
      clear hdr
      by_cases hb : s[k]'hlt = 32
      · have e0 : ((((s[k]'hlt).toNat : Nat) : Int) != 32) = false := by rw [hb]; rfl
        have HB32 := Lib.hid hb
        clear hx1 hx2 hb
        by_cases hne : cur.toList = []
        · have hcur : cur = ⟨#[]⟩ := ba_nil cur hne
          have HT2 : Hid (tokB s = acc ++ (splitFrom (⟨#[]⟩ : ByteArray).data.toList (s.data.toList.drop (k + 1))).map (fun l => ⟨l.toArray⟩)) := Lib.hid (by
            rw [HT.out, HDr.out, HB32.out, hcur]
            rw [split_sp0])
          go_wp2_with fail
          go_roundw
          case rel => exact ⟨k + 1, m, cp, ad, acc, ⟨#[]⟩, by omega, by go_num, rfl, rfl, Nat.zero_le _, by omega, HL.out, HT2.out, fun _ => rfl⟩
          case measure => simp [intOf]; omega
        · have HT2 : Hid (tokB s = (acc ++ [cur]) ++ (splitFrom (⟨#[]⟩ : ByteArray).data.toList (s.data.toList.drop (k + 1))).map (fun l => ⟨l.toArray⟩)) := Lib.hid (by
            rw [HT.out, HDr.out, HB32.out]
            rw [split_space (by rw [← Lib.toList_data]; exact hne), List.map_cons, List.append_assoc]; rfl)
          have hem : cur.toList.isEmpty = false := by simpa using hne
          go_wp2_with (first | (at_builtin; refine wpList_append_own_at _ rfl _ _ 22 rfl w.heap.size 9 i0 (.string ⟨#[]⟩) 1 16 Tryz.underlying22 HI.out.1 HI.out.2.1 HI.out.2.2.1 HI.out.2.2.2 rfl (by decide) _ m _ rfl (HL.out.row.alloc _) ⟨wr.heap.size, 0, none⟩ 1 1 [.string cur] rfl rfl (cell_one_new _ _ _) (strs_one [cur]) (by unfold maxLen; omega) (by omega) (by have := HW1.out.1; have := HSz.out; simp; omega) ?_; intro v2 w4 hrow hg3 hnil hloc; obtain ⟨a7, c7, hv7⟩ := owns_shp hrow; subst hv7; have HX := Lib.hid (HL.out.more (l2 := [cur]) rfl hrow hg3); have HXS := Lib.hid (Nat.le_trans (Nat.le_trans HSz.out ((Below.refl _ _).alloc (Nat.le_refl _) _).size) hg3.size); clear hrow hg3 hnil hloc))
          go_roundw
          case rel => exact ⟨k + 1, m + 1, c7, a7, acc ++ [cur], ⟨#[]⟩, by omega, by go_num, rfl, rfl, Nat.zero_le _, by omega, HX.out, HT2.out, fun _ => rfl⟩
          case measure => simp [intOf]; omega
      · have e0 : ((((s[k]'hlt).toNat : Nat) : Int) != 32) = true := by
          simp
          intro e
          exact hb (UInt8.toNat_inj.1 (by rw [show (32 : UInt8).toNat = 32 from rfl]; omega))
        obtain ⟨xs, hxs⟩ : ∃ xs, s.extract k (k + 1) = xs := ⟨_, rfl⟩
        rw [hxs] at hx1 hx2
        have hcat := cat_run cur xs (by omega)
        have HT2 : Hid (tokB s = acc ++ (splitFrom (cur ++ xs).data.toList (s.data.toList.drop (k + 1))).map (fun l => ⟨l.toArray⟩)) := Lib.hid (by
          rw [HT.out, HDr.out, split_step _ _ _ hb, ba_list, hx1])
        have HZ2 : Hid ((cur ++ xs).size ≤ k + 1) := Lib.hid (by rw [ByteArray.size_append]; omega)
        clear hx1 hb
        go_wp2_with fail
        go_roundw
        case rel => exact ⟨k + 1, m, cp, ad, acc, cur ++ xs, by omega, by go_num, rfl, rfl, HZ2.out, by omega, HL.out, HT2.out, by omega⟩
        case measure => simp [intOf]; omega
    · by_cases hks : k = s.size
      · have k1 : (k : Int) ≤ (s.size : Int) := by omega
        have k2 : ¬ (k : Int) < (s.size : Int) := by omega
        have hd : s.data.toList.drop k = [] := List.drop_of_length_le (by rw [ba_len]; omega)
        have hd2 : s.data.toList.drop (k + 1) = [] := List.drop_of_length_le (by rw [ba_len]; omega)
        have HD := Lib.hid hd
        have HD2 := Lib.hid hd2
        clear hd hd2
        by_cases hne : cur.toList = []
        · have hcur : cur = ⟨#[]⟩ := ba_nil cur hne
          have HT2 : Hid (tokB s = acc ++ (splitFrom (⟨#[]⟩ : ByteArray).data.toList (s.data.toList.drop (k + 1))).map (fun l => ⟨l.toArray⟩)) := Lib.hid (by
            rw [HT.out, HD.out, HD2.out, hcur])
          go_wp2_with fail
          go_roundw
          case rel => exact ⟨k + 1, m, cp, ad, acc, ⟨#[]⟩, by omega, by go_num, rfl, rfl, Nat.zero_le _, by omega, HL.out, HT2.out, fun _ => rfl⟩
          case measure => simp [intOf]; omega
        · have HT2 : Hid (tokB s = (acc ++ [cur]) ++ (splitFrom (⟨#[]⟩ : ByteArray).data.toList (s.data.toList.drop (k + 1))).map (fun l => ⟨l.toArray⟩)) := Lib.hid (by
            rw [HT.out, HD.out, HD2.out]
            rw [split_end (by rw [← Lib.toList_data]; exact hne)]; simp [splitFrom])
          have hem : cur.toList.isEmpty = false := by simpa using hne
          go_wp2_with (first | (at_builtin; refine wpList_append_own_at _ rfl _ _ 22 rfl w.heap.size 9 i0 (.string ⟨#[]⟩) 1 16 Tryz.underlying22 HI.out.1 HI.out.2.1 HI.out.2.2.1 HI.out.2.2.2 rfl (by decide) _ m _ rfl (HL.out.row.alloc _) ⟨wr.heap.size, 0, none⟩ 1 1 [.string cur] rfl rfl (cell_one_new _ _ _) (strs_one [cur]) (by unfold maxLen; omega) (by omega) (by have := HW1.out.1; have := HSz.out; simp; omega) ?_; intro v2 w4 hrow hg3 hnil hloc; obtain ⟨a7, c7, hv7⟩ := owns_shp hrow; subst hv7; have HX := Lib.hid (HL.out.more (l2 := [cur]) rfl hrow hg3); have HXS := Lib.hid (Nat.le_trans (Nat.le_trans HSz.out ((Below.refl _ _).alloc (Nat.le_refl _) _).size) hg3.size); clear hrow hg3 hnil hloc))
          go_roundw
          case rel => exact ⟨k + 1, m + 1, c7, a7, acc ++ [cur], ⟨#[]⟩, by omega, by go_num, rfl, rfl, Nat.zero_le _, by omega, HX.out, HT2.out, fun _ => rfl⟩
          case measure => simp [intOf]; omega
      · obtain rfl : k = s.size + 1 := by omega
        have hcur := HE.out rfl
        have HR : Hid (tokB s = acc) := Lib.hid (by
          rw [HT.out, List.drop_of_length_le (by rw [ba_len]; omega), hcur]
          simp [splitFrom])
        clear hcur
        go_wp2_with fail
        go_ret
        exact ⟨ad, m, cp, rfl, by rw [HR.out]; exact HL.out⟩
end Go.Proofs.YtaekccgcnlepaaaGreatDoor
