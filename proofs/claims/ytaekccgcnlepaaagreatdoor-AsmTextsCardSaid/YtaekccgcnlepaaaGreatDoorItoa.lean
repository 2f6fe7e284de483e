/-
  strconv.Itoa of a number that is not negative, in any seat.
-/
import Derived.Test.YtaekccgcnlepaaaGreatDoorShelf
import Derived.Test.YtaekccgcnlepaaaGreatDoorCode
import Derived.Lib.AppendIntMem
namespace Go.Proofs.YtaekccgcnlepaaaGreatDoor
open Go.ChangeShapes Go.WideShapes Go.ChangeAt Go.RowKit
open Go.Sort
set_option linter.unusedVariables false
theorem itoa_any (n : Nat) (hn : n < 9223372036854775808) (w : World) (htab : Lib.TabIs Tryz.prog w "internal/strconv.uint64pow10" .u64 Lib.pow10Tab) :
    Calls Tryz.prog 46 #[.int .i64 n] w fun e w' => e = .returned (.string ⟨(Lib.decDigits n).toArray⟩) ∧ Below w.heap.size w w' := by
  refine (Go.Proofs.Tryz.strconv_Itoa n (by omega) (by omega) w htab).mono fun e w' ⟨he, k, os, hw⟩ => ?_
  rw [Lib.itoa_nonneg] at he
  refine ⟨he, ?_⟩
  rw [hw]
  exact ⟨rfl, rfl, rfl, by simp [grow], fun i hi => by
    show (w.heap ++ os)[i]? = _
    rw [Array.getElem?_append_left hi]⟩
def decS (n : Int) : ByteArray := ⟨(Lib.decDigits n.toNat).toArray⟩
theorem dec_size (u : Nat) (hu : u < 18446744073709551616) : (decS u).size ≤ 20 := by
  show (Lib.decDigits (u : Int).toNat).toArray.size ≤ 20
  rw [show (u : Int).toNat = u by omega]
  simp only [List.size_toArray, Lib.decDigits_length]
  by_cases h : 1 ≤ u
  · have := Lib.numDigits_eq u h hu; split at this <;> omega
  · obtain rfl : u = 0 := by omega
    decide +kernel
theorem cat_run (a b : ByteArray) (h : a.size + b.size ≤ 1000) : ∀ W, (Op.stringOp .add a b).run Tryz.prog W = .ok (.string (a ++ b)) W := fun W => run_string_add_sum W a b (by omega)
theorem ret_str {a b : ByteArray} (h : a = b) : Ending.returned (.string a) = .returned (.string b) := by rw [h]
theorem ba_list (a b : ByteArray) : (a ++ b).data.toList = a.data.toList ++ b.data.toList := by simp
/-- The names of a word's ops, of an invocation's manners. -/
def wNm : List (List UInt8) := [[97, 100, 100], [115, 117, 98], [109, 117, 108], [100, 105, 118], [109, 111, 100], [97, 110, 100], [111, 114], [120, 111, 114], [115, 104, 108], [115, 104, 114], [108, 116], [101, 113]]
def mNm : List (List UInt8) := [[99, 97, 108, 108], [114, 101, 116, 117, 114, 110], [102, 111, 114, 107]]
structure Tells (w : World) : Prop where
  tab : Lib.TabIs Tryz.prog w "internal/strconv.uint64pow10" .u64 Lib.pow10Tab
  wlt : 17 < w.heap.size
  wat : ∀ n, n < 12 → w.cell? ⟨17, n, none⟩ = some (.string ⟨(wNm.getD n []).toArray⟩)
  mlt : 6 < w.heap.size
  mat : ∀ n, n < 3 → w.cell? ⟨6, n, none⟩ = some (.string ⟨(mNm.getD n []).toArray⟩)
theorem Tells.below {w w' : World} (h : Tells w) (hb : Below w.heap.size w w') : Tells w' :=
  ⟨Lib.tabBelow_of_tabIs h.tab w' hb, Nat.lt_of_lt_of_le h.wlt hb.size, fun n hn => (hb.cell (p := ⟨17, n, none⟩) h.wlt).trans (h.wat n hn), Nat.lt_of_lt_of_le h.mlt hb.size, fun n hn => (hb.cell (p := ⟨6, n, none⟩) h.mlt).trans (h.mat n hn)⟩
/-- What tell says of a field. -/
def tellL (n f : Int) : List UInt8 := if f = 1 then 32 :: 114 :: Lib.decDigits n.toNat else if f = 2 then 32 :: 107 :: Lib.decDigits n.toNat else if f = 3 then 32 :: Lib.decDigits n.toNat else if f = 4 then 32 :: wNm.getD n.toNat [] else if f = 5 then 32 :: mNm.getD n.toNat [] else []
def tellB (n f : Int) : ByteArray := ⟨(tellL n f).toArray⟩
theorem hi_le' (f : Int) : hiOf f ≤ 4095 := by unfold hiOf; repeat' split
                                               all_goals omega
theorem wn_size : ∀ n : Fin 12, (wNm.getD n.val []).length ≤ 3 := by decide
theorem mn_size : ∀ n : Fin 3, (mNm.getD n.val []).length ≤ 6 := by decide
theorem tell_size (n f : Int) (h : fitB n f = true) : (tellB n f).size ≤ 30 := by
  simp only [fitB, decide_eq_true_eq] at h
  show (tellL n f).toArray.size ≤ 30
  rw [List.size_toArray]
  have hd : (Lib.decDigits n.toNat).length ≤ 20 := by
    have h1 : ((Lib.decDigits ((n.toNat : Nat) : Int).toNat).toArray).size ≤ 20 := dec_size n.toNat (by have := hi_le' f; omega)
    rwa [Int.toNat_natCast, List.size_toArray] at h1
  unfold tellL
  unfold hiOf at h
  split
  · simp; omega
  · split
    · simp; omega
    · split
      · simp; omega
      · split
        · rename_i h1 h2 h3 h4
          rw [if_neg h1, if_neg h2, if_neg h3, if_pos h4] at h
          have := wn_size ⟨n.toNat, by omega⟩
          simp at this ⊢; omega
        · split
          · rename_i h1 h2 h3 h4 h5
            rw [if_neg h1, if_neg h2, if_neg h3, if_neg h4, if_pos h5] at h
            have := mn_size ⟨n.toNat, by omega⟩
            simp at this ⊢; omega
          · simp
theorem itoa_op (n : Nat) (d : ByteArray) (hd : Hid (decS n = d)) (hn : n < 9223372036854775808) (w : World) (htab : Lib.TabIs Tryz.prog w "internal/strconv.uint64pow10" .u64 Lib.pow10Tab) :
    Calls Tryz.prog 46 #[.int .i64 n] w fun e w' => e = .returned (.string d) ∧ Below w.heap.size w w' := by
  rw [← hd.out]; exact itoa_any n hn w htab
theorem wname_any (n : Nat) (hn : n < 12) (s : ByteArray) (hs : Hid ((⟨(wNm.getD n []).toArray⟩ : ByteArray) = s)) (w : World) (hT : Tells w) : Calls Tryz.prog 67 #[.int .i64 n] w fun e w' => e = .returned (.string s) ∧ w = w' := by
  have hc := hT.wat n hn
  rw [hs.out] at hc
  have b1 : decide ((n : Int) < 0) = false := by rw [decide_eq_false_iff_not]; omega
  have b2 : decide ((12 : Int) ≤ (n : Int)) = false := by rw [decide_eq_false_iff_not]; omega
  clear hT
  go_enter Tryz.func67, Tryz.ntmps67
  go_wp2
  go_ret
  exact ⟨rfl, rfl⟩
set_option maxRecDepth 100000 in
theorem tell_any (n : Nat) (f : Int) (h : Hid (fitB n f = true)) (s : ByteArray) (hs : Hid (tellB n f = s)) (w : World) (hT : Tells w) :
    Calls Tryz.prog 45 #[.int .i64 n, .int .i64 f] w fun e w' => e = .returned (.string s) ∧ Below w.heap.size w w' := by
  have hb0 := h.out
  simp only [fitB, decide_eq_true_eq] at hb0
  obtain ⟨d, hd⟩ : ∃ d, Hid (decS n = d) := ⟨_, Lib.hid rfl⟩
  have hds : d.size ≤ 20 := by rw [← hd.out]; exact dec_size n (by have := hi_le' f; omega)
  have hn : n ≤ 4095 := by have := hi_le' f; omega
  by_cases h1 : f = 1 ∨ f = 2 ∨ f = 3
  · clear hb0
    rcases h1 with rfl | rfl | rfl
    · have z1 : (⟨#[32, 114]⟩ : ByteArray).size = 2 := rfl
      have f1 := cat_run ⟨#[32, 114]⟩ d (by omega)
      clear z1
      go_enter Tryz.func45, Tryz.ntmps45
      go_wp2_with (first | (go_at_call 46; (with_reducible refine (itoa_op n d hd (by omega) _ hT.tab).mono ?_); rintro e w1 ⟨rfl, hb⟩))
      go_ret
      refine ⟨ret_str ?_, hb⟩
      rw [← hs.out, ← hd.out]
      rfl
    · have z1 : (⟨#[32, 107]⟩ : ByteArray).size = 2 := rfl
      have f1 := cat_run ⟨#[32, 107]⟩ d (by omega)
      clear z1
      go_enter Tryz.func45, Tryz.ntmps45
      go_wp2_with (first | (go_at_call 46; (with_reducible refine (itoa_op n d hd (by omega) _ hT.tab).mono ?_); rintro e w1 ⟨rfl, hb⟩))
      go_ret
      refine ⟨ret_str ?_, hb⟩
      rw [← hs.out, ← hd.out]
      rfl
    · have z1 : (⟨#[32]⟩ : ByteArray).size = 1 := rfl
      have f1 := cat_run ⟨#[32]⟩ d (by omega)
      clear z1
      go_enter Tryz.func45, Tryz.ntmps45
      go_wp2_with (first | (go_at_call 46; (with_reducible refine (itoa_op n d hd (by omega) _ hT.tab).mono ?_); rintro e w1 ⟨rfl, hb⟩))
      go_ret
      refine ⟨ret_str ?_, hb⟩
      rw [← hs.out, ← hd.out]
      rfl
  · by_cases h4 : f = 4
    · subst h4
      have hn4 : n < 12 := by have : hiOf 4 = 11 := rfl; omega
      obtain ⟨m, hm⟩ : ∃ m, Hid ((⟨(wNm.getD n []).toArray⟩ : ByteArray) = m) := ⟨_, Lib.hid rfl⟩
      have z1 : (⟨#[32]⟩ : ByteArray).size = 1 := rfl
      have zm : m.size ≤ 3 := by rw [← hm.out]; exact wn_size ⟨n, hn4⟩
      have f1 := cat_run ⟨#[32]⟩ m (by omega)
      clear z1 hb0 h1
      go_enter Tryz.func45, Tryz.ntmps45
      go_wp2_with (first | (go_at_call 67; (with_reducible refine (wname_any n hn4 m hm _ hT).mono ?_); rintro e w1 ⟨rfl, rfl⟩))
      go_ret
      refine ⟨ret_str ?_, Below.refl _ _⟩
      rw [← hs.out, ← hm.out]
      rfl
    · by_cases h5 : f = 5
      · subst h5
        have hn5 : n < 3 := by have : hiOf 5 = 2 := rfl; omega
        have hc := hT.mat n hn5
        obtain ⟨m, hm⟩ : ∃ m, Hid ((⟨(mNm.getD n []).toArray⟩ : ByteArray) = m) := ⟨_, Lib.hid rfl⟩
        rw [hm.out] at hc
        have z1 : (⟨#[32]⟩ : ByteArray).size = 1 := rfl
        have zm : m.size ≤ 6 := by rw [← hm.out]; exact mn_size ⟨n, hn5⟩
        have f1 := cat_run ⟨#[32]⟩ m (by omega)
        clear z1 hb0 h1 h4 hT
        go_enter Tryz.func45, Tryz.ntmps45
        go_wp2
        go_ret
        refine ⟨ret_str ?_, Below.refl _ _⟩
        rw [← hs.out, ← hm.out]
        rfl
      · have b1 : (f == 1) = false := by simp; omega
        have b2 : (f == 2) = false := by simp; omega
        have b3 : (f == 3) = false := by simp; omega
        have b4 : (f == 4) = false := by simp; omega
        have b5 : (f == 5) = false := by simp; omega
        have e : tellB n f = ⟨#[]⟩ := by unfold tellB tellL; rw [if_neg (by omega), if_neg (by omega), if_neg (by omega), if_neg h4, if_neg h5]
        rw [← hs.out, e]
        clear hb0 h1 h4 h5 hT
        go_enter Tryz.func45, Tryz.ntmps45
        go_wp2
        go_ret
        exact ⟨rfl, Below.refl _ _⟩
end Go.Proofs.YtaekccgcnlepaaaGreatDoor
