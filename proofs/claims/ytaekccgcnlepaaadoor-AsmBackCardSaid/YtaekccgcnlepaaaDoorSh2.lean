/-
  package asm: Show.
-/
import Derived.Test.YtaekccgcnlepaaaDoorBm
import Derived.Test.YtaekccgcnlepaaaDoorFm2
namespace Go.Proofs.YtaekccgcnlepaaaDoor
open Go.ChangeShapes Go.WideShapes Go.ChangeAt Go.RowKit Go.Maps
set_option linter.unusedVariables false
set_option linter.unusedSimpArgs false
/-- Words in a row. -/
def RU (w : World) (a : Option Addr) (xs : List Int) : Prop := ∀ j, j < xs.length → ∃ ad, a = some ad ∧ ad.block < w.heap.size ∧ w.cell? (ad.add j) = some (.int .u32 (xs.getD j 0))
theorem RU.below {w w' : World} {a : Option Addr} {xs : List Int} (h : RU w a xs) (hb : Below w.heap.size w w') : RU w' a xs := by
  intro i hi
  obtain ⟨ad, h1, h2, h3⟩ := h i hi
  exact ⟨ad, h1, Nat.lt_of_lt_of_le h2 hb.size, (hb.cell (p := ad.add i) (by rw [add_blockL]; exact h2)).trans h3⟩
theorem own_ru {w : World} {B n c : Nat} {a : Option Addr} {xs : List Int} (h : w.ownsRow B 37 1 (.slice a n c) n (xs.map u32)) (hn : xs.length = n) : RU w a xs := by
  intro i hi
  rcases h.2 with ⟨_, h0⟩ | ⟨g, cap, cur, hv, hB, hg, rest⟩
  · omega
  · obtain rfl : a = some ⟨g, 0, none⟩ := by simp at hv; exact hv.1
    refine ⟨_, rfl, (h.lt g rfl).2, ?_⟩
    have := h.cellAt i (by omega)
    rw [show (Addr.add ⟨g, 0, none⟩ i) = ⟨g, i, none⟩ by (unfold Addr.add; split <;> simp_all), this]
    simp [List.getD, hi, u32]
set_option maxRecDepth 100000 in
theorem samewords_yes (a b : Option Addr) (ca cb n : Nat) (xs : List Int) (hn : Hid (xs.length = n)) (hm : n ≤ 1000000) (w : World) (hx : RU w a xs) (hy : RU w b xs) :
    Calls Tryd.prog 14 #[.slice a n ca, .slice b n cb] w fun e w' => e = .returned (.bool true) ∧ Below w.heap.size w w' := by
  have HX := Lib.hid hx
  have HY := Lib.hid hy
  clear hx hy
  go_enter Tryd.func14, Tryd.ntmps14
  go_wp2_with fail
  go_loopw [5] (fun i wr => ∃ k : Nat, k ≤ n ∧ i = .int .i64 k ∧ Below w.heap.size w wr) (fun i _ => n - (intOf i).toNat)
  case atStart => exact ⟨0, by omega, rfl, Below.refl _ _⟩
  case round =>
    obtain ⟨k, hk, rfl, hb⟩ := hrel
    have HB := Lib.hid hb
    by_cases hlt : k < n
    · obtain ⟨ad, rfl, h1, c1⟩ := (HX.out.below hb) k (by rw [hn.out]; exact hlt)
      obtain ⟨bd, rfl, h2, c2⟩ := (HY.out.below hb) k (by rw [hn.out]; exact hlt)
      generalize xs.getD k 0 = x at c1 c2
      have k0 : (0 : Int) ≤ (k : Int) := by omega
      have k1 : (k : Int) < (n : Int) := by omega
      clear hb h1 h2
      go_wp2_with fail
      go_quiet (fail)
      go_wp2
      go_roundw
      case rel => exact ⟨k + 1, by omega, by go_num, below_dN2 HB.out _⟩
      case measure => simp [intOf]; omega
    · obtain rfl : n = k := by omega
      have hdd : decide (n < n) = false := by simp
      clear hb
      go_wp2_with fail
      go_ret
      exact ⟨rfl, HB.out⟩
theorem cell_new2 (w : World) (o : Obj) (a : Value) (t : TypeId) : ∀ j u, [a][j]? = some u → ((w.alloc o).alloc (.cells #[a] t)).cell? ((⟨w.heap.size + 1, 0, none⟩ : Addr).add j) = some u := by
  have h := cell_one_new (w.alloc o) a t
  rw [show (w.alloc o).heap.size = w.heap.size + 1 by simp] at h
  exact h
theorem parts_of (x : Int) : PartsC x (x / 16777216) (x / 1048576 % 16) (x / 65536 % 16) (x / 4096 % 16) (x % 4096) := ⟨rfl, rfl, rfl, rfl, rfl⟩
set_option maxRecDepth 100000 in
set_option maxHeartbeats 4000000 in
theorem show_is {A : Nat → Addr} (a : Option Addr) (c m : Nat) (xs : List Int) (hn : Hid (xs.length = m)) (hm1 : m ≤ 1000) (hx : Hid (∀ i, i < m → 0 ≤ xs.getD i 0 ∧ xs.getD i 0 ≤ 4294967295)) (w : World) (hA : AsmAt A w) (hT : Tells w) (hL : RU w a xs) :
    Calls Tryd.prog 13 #[.slice a m c] w fun e w' => ∃ ad cp, e = .returned (.slice ad m cp) ∧ LR w w' w.heap.size (.slice ad m cp) (xs.map showW) m := by
  have HA := Lib.hid hA
  have HT := Lib.hid hT
  have HR := Lib.hid hL
  obtain ⟨i0, hi, hz0, hz1, hz2⟩ := info_parts infoStr
  have HI := Lib.hid (⟨hi, hz0, hz1, hz2⟩ : Tryd.prog.info? 9 = some i0 ∧ i0.zero = some (.string ⟨#[]⟩) ∧ i0.size = 1 ∧ i0.bytes = 16)
  have HW1 : Hid (w.heap.size ≤ w.heap.size ∧ w.heap.size ≤ w.heap.size) := Lib.hid ⟨Nat.le_refl _, Nat.le_refl _⟩
  clear hA hT hL hi hz0 hz1 hz2
  go_enter Tryd.func13, Tryd.ntmps13
  go_wp2_with fail
  go_loopw [3, 11] (fun lv i wr => ∃ (k cp : Nat) (ad : Option Addr), k ≤ m ∧ i = .int .i64 k ∧ lv = .slice ad k cp ∧ LR w wr w.heap.size (.slice ad k cp) ((xs.take k).map showW) k ∧ w.heap.size ≤ wr.heap.size) (fun _ i _ => m - (intOf i).toNat)
  case atStart => exact ⟨0, 0, none, by omega, rfl, rfl, ⟨World.ownsRow_nil _ _ _ _, Below.refl _ _, rfl, Nat.le_refl _⟩, Nat.le_refl _⟩
  case round =>
    obtain ⟨k, cp, ad, hk, rfl, rfl, hLR, hsz⟩ := hrel
    have HL := Lib.hid hLR
    by_cases hlt : k < m
    · obtain ⟨adx, rfl, h1, cx⟩ := (HR.out.below hLR.bel) k (by rw [hn.out]; exact hlt)
      obtain ⟨h0, h2⟩ := hx.out k hlt
      obtain ⟨x, hxx⟩ : ∃ x, xs.getD k 0 = x := ⟨_, rfl⟩
      rw [hxx] at cx h0 h2
      obtain ⟨u, rfl⟩ : ∃ u : Nat, x = u := ⟨x.toNat, by omega⟩
      have hu : u < 4294967296 := by omega
      have HTk : Hid ((xs.take k).map showW ++ [showW (u : Int)] = (xs.take (k + 1)).map showW) := Lib.hid (by
        have hkl : k < xs.length := by rw [hn.out]; exact hlt
        rw [List.take_succ_eq_append_getElem hkl, List.map_append]
        simp [List.getD, hkl] at hxx
        rw [hxx]
        rfl)
      obtain ⟨d, hd⟩ : ∃ d : ByteArray, d = ⟨(Lib.decDigits u).toArray⟩ := ⟨_, rfl⟩
      have hds : d.size ≤ 20 := by
        have := dec_size u (by omega)
        unfold decS at this
        rw [Int.toNat_natCast] at this
        rw [hd]; exact this
      have z1 : (⟨#[119, 111, 114, 100, 32]⟩ : ByteArray).size = 5 := rfl
      obtain ⟨s1, hs1⟩ : ∃ s1, (⟨#[119, 111, 114, 100, 32]⟩ : ByteArray) ++ d = s1 := ⟨_, rfl⟩
      have f1 := cat_run ⟨#[119, 111, 114, 100, 32]⟩ d (by omega)
      rw [hs1] at f1
      have HS1 : Hid (s1 = wordS u) := Lib.hid (by
        rw [← hs1, hd]
        apply ByteArray.ext
        simp [wordS])
      have HD : Hid (d = ⟨(Lib.decDigits u).toArray⟩) := Lib.hid hd
      obtain ⟨p0, hp0⟩ : ∃ p, (u : Int) / 16777216 = p := ⟨_, rfl⟩
      obtain ⟨p1, hp1⟩ : ∃ p, (u : Int) / 1048576 % 16 = p := ⟨_, rfl⟩
      obtain ⟨p2, hp2⟩ : ∃ p, (u : Int) / 65536 % 16 = p := ⟨_, rfl⟩
      obtain ⟨p3, hp3⟩ : ∃ p, (u : Int) / 4096 % 16 = p := ⟨_, rfl⟩
      obtain ⟨p4, hp4⟩ : ∃ p, (u : Int) % 4096 = p := ⟨_, rfl⟩
      have HP : Hid (PartsC (u : Int) p0 p1 p2 p3 p4) := Lib.hid ⟨hp0, hp1, hp2, hp3, hp4⟩
      have HSh : Hid (showW (u : Int) = if okB p0 p1 p2 p3 p4 = true then textC p0 p1 p2 p3 p4 else wordS u) := Lib.hid (by
        unfold showW
        rw [hp0, hp1, hp2, hp3, hp4, Int.toNat_natCast])
      have k0 : (0 : Int) ≤ (k : Int) := by omega
      have k1 : (k : Int) < (m : Int) := by omega
      have HSz : Hid (w.heap.size ≤ wr.heap.size) := Lib.hid hsz
      clear hLR hsz h1 hxx hd z1 hs1 hp0 hp1 hp2 hp3 hp4 hds
      cases hok : okB p0 p1 p2 p3 p4
      · have HSh2 : Hid (s1 = showW (u : Int)) := Lib.hid (by rw [HSh.out, hok, if_neg (by simp), HS1.out])
        have HOk := Lib.hid hok
        clear hok
        go_wp2_with (first
          | (go_at_call 31; (with_reducible refine (fmtuint_any u (by omega) _ (HT.out.below HL.out.bel).tab).mono ?_); rw [← HD.out]; rintro e w3 ⟨rfl, hb⟩; have HL3 := Lib.hid (HL.out.below hb); have HS3 := Lib.hid (Nat.le_trans HSz.out hb.size); clear hb)
          | (go_at_call 11; (with_reducible refine (cread_no (u : Int) p0 p1 p2 p3 p4 _ _ _ (HA.out.below HL3.out.bel).code (by omega) (by omega) HP HOk).mono ?_); rintro e w4 ⟨rfl, hb⟩; have HL4 : Hid (LR w (w4.alloc (.cells #[.int .i64 0, .int .i64 0, .int .i64 0, .int .i64 0, .int .i64 0] 24)) w.heap.size (.slice ad k cp) ((xs.take k).map showW) k) := Lib.hid ((HL3.out.below hb).below ((Below.refl _ _).alloc (Nat.le_refl _) _)); have HS4 : Hid (w.heap.size ≤ (w4.alloc (.cells #[.int .i64 0, .int .i64 0, .int .i64 0, .int .i64 0, .int .i64 0] 24)).heap.size) := Lib.hid (Nat.le_trans (Nat.le_trans HS3.out hb.size) (by simp)); have HC4 := Lib.hid (cell_new2 w4 (.cells #[.int .i64 0, .int .i64 0, .int .i64 0, .int .i64 0, .int .i64 0] 24) (.string s1) 9); clear hb)
          | (at_builtin; refine wpList_append_own_at _ rfl _ _ 40 rfl w.heap.size 9 i0 (.string ⟨#[]⟩) 1 16 Tryd.underlying40 HI.out.1 HI.out.2.1 HI.out.2.2.1 HI.out.2.2.2 rfl (by decide) _ k _ rfl (HL4.out.row.alloc _) ⟨w4.heap.size + 1, 0, none⟩ 1 1 [.string s1] rfl rfl HC4.out (strs_one [s1]) (by unfold maxLen; omega) (by omega) (by have := HS4.out; simp at this ⊢; omega) ?_; intro v2 w4 hrow hg3 hnil hloc; have HX := Lib.hid (HL4.out.more (l2 := [s1]) rfl hrow hg3); have HXS := Lib.hid (Nat.le_trans (Nat.le_trans HS4.out ((Below.refl _ _).alloc (Nat.le_refl _) _).size) hg3.size); clear hrow hg3 hnil hloc))
        go_roundw
        case rel =>
          have hx := HX.out
          rw [HSh2.out, HTk.out] at hx
          obtain ⟨a3, c3, hv3⟩ := owns_shp hx.row
          rw [hv3] at hx
          exact ⟨k + 1, c3, a3, by omega, by go_num, hv3, hx, HXS.out⟩
        case measure => simp [intOf]; omega
      · obtain ⟨t2, ht2⟩ : ∃ t2, Hid (textC p0 p1 p2 p3 p4 = t2) := ⟨_, Lib.hid rfl⟩
        have HSh2 : Hid (t2 = showW (u : Int)) := Lib.hid (by rw [HSh.out, hok, if_pos rfl, ht2.out])
        have HOk := Lib.hid hok
        clear hok
        go_wp2_with (first
          | (go_at_call 31; (with_reducible refine (fmtuint_any u (by omega) _ (HT.out.below HL.out.bel).tab).mono ?_); rw [← HD.out]; rintro e w3 ⟨rfl, hb⟩; have HL3 := Lib.hid (HL.out.below hb); have HS3 := Lib.hid (Nat.le_trans HSz.out hb.size); clear hb)
          | (go_at_call 11; (with_reducible refine (cread_ok (u : Int) p0 p1 p2 p3 p4 _ _ _ (HA.out.below HL3.out.bel).code (by omega) (by omega) HP HOk).mono ?_); rintro e w4 ⟨rfl, hb⟩; have HL4 : Hid (LR w (w4.alloc (.cells #[.int .i64 p0, .int .i64 p1, .int .i64 p2, .int .i64 p3, .int .i64 p4] 24)) w.heap.size (.slice ad k cp) ((xs.take k).map showW) k) := Lib.hid ((HL3.out.below hb).below ((Below.refl _ _).alloc (Nat.le_refl _) _)); have HS4 : Hid (w.heap.size ≤ (w4.alloc (.cells #[.int .i64 p0, .int .i64 p1, .int .i64 p2, .int .i64 p3, .int .i64 p4] 24)).heap.size) := Lib.hid (Nat.le_trans (Nat.le_trans HS3.out hb.size) (by simp)); clear hb)
          | (go_at_call 32; (with_reducible refine (ctext_right p0 p1 p2 p3 p4 _ _ _ (HA.out.below HL4.out.bel).code (HT.out.below HL4.out.bel) HOk t2 ht2).mono ?_); rintro e w5 ⟨rfl, hb⟩; have HL5 := Lib.hid (HL4.out.below hb); have HS5 := Lib.hid (Nat.le_trans HS4.out hb.size); clear hb)
          | (at_builtin; refine wpList_append_own_at _ rfl _ _ 40 rfl w.heap.size 9 i0 (.string ⟨#[]⟩) 1 16 Tryd.underlying40 HI.out.1 HI.out.2.1 HI.out.2.2.1 HI.out.2.2.2 rfl (by decide) _ k _ rfl (HL5.out.row.alloc _) ⟨w5.heap.size, 0, none⟩ 1 1 [.string t2] rfl rfl (cell_one_new _ _ _) (strs_one [t2]) (by unfold maxLen; omega) (by omega) (by have := HS5.out; simp at this ⊢; omega) ?_; intro v2 w4 hrow hg3 hnil hloc; have HX := Lib.hid (HL5.out.more (l2 := [t2]) rfl hrow hg3); have HXS := Lib.hid (Nat.le_trans (Nat.le_trans HS5.out ((Below.refl _ _).alloc (Nat.le_refl _) _).size) hg3.size); clear hrow hg3 hnil hloc))
        go_roundw
        case rel =>
          have hx := HX.out
          rw [HSh2.out, HTk.out] at hx
          obtain ⟨a3, c3, hv3⟩ := owns_shp hx.row
          rw [hv3] at hx
          exact ⟨k + 1, c3, a3, by omega, by go_num, hv3, hx, HXS.out⟩
        case measure => simp [intOf]; omega
    · obtain rfl : m = k := by omega
      have hdd : decide (m < m) = false := by simp
      have hTk : xs.take m = xs := List.take_of_length_le (by rw [hn.out]; exact Nat.le_refl _)
      have hl2 := HL.out
      rw [hTk] at hl2
      have HL2 := Lib.hid hl2
      clear hLR hsz hTk hl2
      go_wp2_with fail
      go_ret
      exact ⟨ad, cp, rfl, HL2.out⟩
end Go.Proofs.YtaekccgcnlepaaaDoor
