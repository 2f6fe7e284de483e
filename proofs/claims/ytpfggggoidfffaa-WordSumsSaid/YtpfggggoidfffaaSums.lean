import Derived.Test.YtpfggggoidfffaaSum
import Derived.Deep.RegionWith
import Derived.Deep.RegionHeld3
namespace Go.Proofs.Ytpfggggoidfffaa
open Go.ChangeShapes Go.WideShapes Go.ChangeAt Go.RowKit
set_option linter.unusedVariables false

theorem do_add (s x : Int) (hs : Fit s) (hx : Fit x) (w : World) : Calls Try.prog 7 #[.int .i64 0, .int .u32 s, .int .u32 x] w fun e w' => e = .returned (.tuple #[.int .u32 ((s + x) % 4294967296), .bool true]) ∧ w = w' := do_any 0 s x hs hx w

theorem held_alloc {w w1 : World} {b off k : Nat} {xs : List Int} (hbl : b < w.heap.size) (h : Below w.heap.size w w1 ∧ Row w1 (some ⟨b, off, none⟩) k xs) (o : Obj) : Below w.heap.size w (w1.alloc o) ∧ Row (w1.alloc o) (some ⟨b, off, none⟩) k xs := by
  obtain ⟨h1, h2, h3, h4⟩ := h
  have hz := h1.size
  refine ⟨h1.alloc hz _, h2, ?_, h4⟩
  rcases h3 with h3 | ⟨b', off', e, h3⟩
  · exact .inl h3
  · cases e
    exact .inr ⟨b, off, rfl, fun i hi => (World.cell?_alloc_lt w1 o ⟨b, off + i, none⟩ (by simp; omega)).trans (h3 i hi)⟩
set_option maxHeartbeats 2000000 in
theorem sums_main (b off len cap : Nat) (xs : List Int) (cut : Nat) (w : World) (hl : Hid (xs.length = len)) (hcut : cut ≤ len) (hlc : len ≤ cap) (hpos : 0 < len) (h40 : len ≤ 40) (hcap : cap ≤ 9223372036854775807)
    (hc : ∀ i, i < len → w.cell? ⟨b, off + i, none⟩ = some (.int .u32 (xs.getD i 0))) (hf : ∀ i, i < len → Fit (xs.getD i 0)) :
    Calls Try.prog 3 #[.slice (some ⟨b, off, none⟩) len cap, .int .i64 cut] w fun e w' => e = .returned (.bool true) ∧ Below w.heap.size w w' := by
  have HF := Lib.hid hf
  clear hf
  have e1 : decide ((40 : Int) < (len : Int)) = false := by simp; omega
  have e2 : decide ((cut : Int) < 0) = false := by simp
  have e3 : decide (len < cut) = false := by simp; omega
  go_enter Try.func3, Try.ntmps3
  go_wp2_with (first | (go_at_call 6; refine (first_any _).mono ?_; rintro e w' ⟨rfl, rfl⟩))
  go_loop [6, 7] (fun s i => ∃ k : Nat, k ≤ len ∧ i = .int .i64 k ∧ s = .int .u32 (sumM (xs.take k))) (fun _ i => len - (intOf i).toNat)
  case atStart => exact ⟨0, Nat.zero_le _, rfl, rfl⟩
  case round =>
    obtain ⟨k, hk, rfl, rfl⟩ := hrel
    have hb := sumM_bd (xs.take k)
    by_cases hlt : k < len
    · have hcell := hc k hlt
      have H1 := Lib.hid (sumM_snoc (xs.take k) (xs.getD k 0))
      have H2 := Lib.hid (take_snoc' xs k (by rw [hl.out]; exact hlt))
      have fs : Fit (sumM (xs.take k)) := ⟨hb.1, hb.2⟩
      have fx := HF.out k hlt
      go_wp2_with (first | (go_at_call 7; refine (do_add _ _ fs fx _).mono ?_; rintro e w' ⟨rfl, rfl⟩))
      go_round
      case rel =>
        have R : sumM (xs.take (k + 1)) = (sumM (xs.take k) + xs.getD k 0) % 4294967296 := by rw [H2.out, H1.out]
        exact ⟨k + 1, by omega, by go_num, by rw [R]; rfl⟩
      case measure => simp [intOf]; omega
    · have he : k = len := by omega
      subst he
      go_wp2
      have hx : xs.take k = xs := List.take_of_length_le (by rw [hl.out]; omega)
      rw [hx]
      have R0 : Row w (some ⟨b, off, none⟩) k xs := ⟨hl.out, .inr ⟨b, off, rfl, hc⟩, HF.out⟩
      have hbl : b < w.heap.size := World.block_lt_of_cell? w _ (hc 0 hpos)
      have M : sumM [sumM (xs.drop cut), sumM (xs.take cut)] = sumM xs := sumM_split xs cut
      have HM := Lib.hid M
      have ST : Hid (Below w.heap.size w w.drew ∧ Row w.drew (some ⟨b, off, none⟩) k xs) := ⟨(Below.refl _ _).drew, R0.drew⟩
      clear M hx hlt R0 hc
      have i1 : (0 : Int) ≤ (cut : Int) := by omega
      have i2 : (cut : Int) ≤ (k : Int) := by omega
      have i3 : (cut : Int) ≤ (cap : Int) := by omega
      by_cases hcc : cap = cut
      · obtain rfl : cut = k := by omega
        obtain rfl : cap = cut := hcc
        have hd : xs.drop cap = [] := List.drop_eq_nil_of_le (by rw [hl.out]; omega)
        have hq : xs.take cap = xs := List.take_of_length_le (by rw [hl.out]; omega)
        have HM2 : Hid (sumM [sumM [], sumM xs] = sumM xs) := by have := HM.out; rw [hd, hq] at this; exact this
        have RN : ∀ (W : World) (a : Option Addr), Row W a 0 [] := fun W a => ⟨rfl, .inl rfl, fun i hi => absurd hi (by omega)⟩
        clear HM hd hq
        go_region_held3 (fun w' => Below w.heap.size w w' ∧ Row w' (some ⟨b, off, none⟩) cap xs) (first | exact ST.out | assumption | exact held_alloc hbl (by assumption) _)
          (first | (go_at_call_of 8 (Value.slice (some ⟨b, off, none⟩) cap cap); refine (sum_any _ _ _ xs _ ?_ ?_).mono ?_; (exact And.right (by assumption)); (unfold maxLen; omega); rintro e w' ⟨rfl, rfl⟩) | (go_at_call_of 8 (Value.slice (some ⟨b, off, none⟩) 0 0); refine (sum_any _ _ _ [] _ ?_ ?_).mono ?_; (exact RN _ _); (unfold maxLen; omega); rintro e w' ⟨rfl, rfl⟩) | (go_at_call 8; refine (sum_any _ _ _ [sumM [], sumM xs] _ ?_ ?_).mono ?_; (exact (Row.new2 _ _ _ _ (fit_sum _) (fit_sum _)).drew); (unfold maxLen; omega); rintro e w' ⟨rfl, rfl⟩))
        rw [HM2.out]
        go_wp2
        go_ret
        refine ⟨by simp, ?_⟩
        apply And.left
        assumption
      · go_region_held3 (fun w' => Below w.heap.size w w' ∧ Row w' (some ⟨b, off, none⟩) k xs) (first | exact ST.out | assumption | exact held_alloc hbl (by assumption) _)
          (first | (go_at_call_of 8 (Value.slice (some ⟨b, off, none⟩) k cap); refine (sum_any _ _ _ xs _ ?_ ?_).mono ?_; (exact And.right (by assumption)); (unfold maxLen; omega); rintro e w' ⟨rfl, rfl⟩) | (go_at_call_of 8 (Value.slice (some ⟨b, off, none⟩) cut cap); refine (sum_any _ _ _ (xs.take cut) _ ?_ ?_).mono ?_; (exact Row.pre (And.right (by assumption)) hcut); (unfold maxLen; omega); rintro e w' ⟨rfl, rfl⟩) | (go_at_call_of 8 (Value.slice (some ⟨b, off + cut, none⟩) (k - cut) (cap - cut)); refine (sum_any _ _ _ (xs.drop cut) _ ?_ ?_).mono ?_; (exact Row.suf (And.right (by assumption)) hcut); (unfold maxLen; omega); rintro e w' ⟨rfl, rfl⟩) | (go_at_call 8; refine (sum_any _ _ _ [sumM (xs.drop cut), sumM (xs.take cut)] _ ?_ ?_).mono ?_; (exact (Row.new2 _ _ _ _ (fit_sum _) (fit_sum _)).drew); (unfold maxLen; omega); rintro e w' ⟨rfl, rfl⟩))
        rw [HM.out]
        go_wp2
        go_ret
        refine ⟨by simp, ?_⟩
        apply And.left
        assumption

theorem fit32 {a : Int} (h : (Lit.int .u32 a).wf = true) : Fit a := by
  have h : 0 ≤ a ∧ a ≤ 4294967295 := by simpa [Lit.wf, IntKind.min, IntKind.max, IntKind.signed, IntKind.bits] using h
  exact ⟨h.1, h.2⟩
theorem sums_early (a : Option Addr) (len cap : Nat) (cut : Int) (w : World) (hm : len ≤ 9223372036854775807) (h : 40 < len ∨ cut < 0 ∨ (len : Int) < cut) :
    Calls Try.prog 3 #[.slice a len cap, .int .i64 cut] w fun e w' => e = .returned (.bool true) ∧ Below w.heap.size w w' := by
  by_cases h1 : 40 < len
  · have e1 : (40 : Int) < (len : Int) := by omega
    go_enter Try.func3, Try.ntmps3; go_wp2_with (first | (go_at_call 6; refine (first_any _).mono ?_; rintro e w' ⟨rfl, rfl⟩)); go_ret; exact ⟨rfl, Below.refl _ _⟩
  have e1 : decide ((40 : Int) < (len : Int)) = false := by rw [decide_eq_false_iff_not]; omega
  by_cases h2 : cut < 0
  · go_enter Try.func3, Try.ntmps3; go_wp2_with (first | (go_at_call 6; refine (first_any _).mono ?_; rintro e w' ⟨rfl, rfl⟩)); go_ret; exact ⟨rfl, Below.refl _ _⟩
  have h3 : (len : Int) < cut := by omega
  have e2 : decide (cut < 0) = false := by rw [decide_eq_false_iff_not]; omega
  go_enter Try.func3, Try.ntmps3; go_wp2_with (first | (go_at_call 6; refine (first_any _).mono ?_; rintro e w' ⟨rfl, rfl⟩)); go_ret; exact ⟨rfl, Below.refl _ _⟩
theorem sums_empty (a : Option Addr) (cap : Nat) (w : World) (hcap : cap ≤ 9223372036854775807) :
    Calls Try.prog 3 #[.slice a 0 cap, .int .i64 0] w fun e w' => e = .returned (.bool true) ∧ Below w.heap.size w w' := by
  have RN : ∀ (W : World) (a : Option Addr), Row W a 0 [] := fun W a => ⟨rfl, .inl rfl, fun i hi => absurd hi (by omega)⟩
  have hs : Hid (sumM [] = 0) := Lib.hid rfl
  have hs2 : Hid (sumM [sumM [], sumM []] = 0) := Lib.hid rfl
  have S0 : ∀ (W : World) (a : Option Addr) (c : Nat), Calls Try.prog 8 #[.slice a 0 c] W fun e w' => e = .returned (.int .u32 0) ∧ W = w' := fun W a c => by
    have h := sum_any a 0 c [] W (RN W a) (by unfold maxLen; omega)
    rw [hs.out] at h; exact h
  have S2 : ∀ (W : World) (b : Nat), Row W (some ⟨b, 0, none⟩) 2 [0, 0] → Calls Try.prog 8 #[.slice (some ⟨b, 0, none⟩) 2 2] W fun e w' => e = .returned (.int .u32 0) ∧ W = w' := fun W b hr =>
    sum_any _ 2 2 [0, 0] W hr (by unfold maxLen; omega)
  have HS0 := Lib.hid S0
  have HS2 := Lib.hid S2
  clear S0 S2
  have f0 : Fit 0 := ⟨by decide, by decide⟩
  have ST : Hid (Below w.heap.size w w.drew) := Lib.hid (Below.refl _ _).drew
  go_enter Try.func3, Try.ntmps3
  go_wp2_with (first | (go_at_call 6; refine (first_any _).mono ?_; rintro e w' ⟨rfl, rfl⟩))
  go_loop [6, 7] (fun s i => s = .int .u32 0 ∧ i = .int .i64 0) (fun _ _ => 0)
  case atStart => exact ⟨rfl, rfl⟩
  case round =>
    obtain ⟨rfl, rfl⟩ := hrel
    go_wp2
    by_cases hc : cap = 0
    · subst hc
      go_region_held3 (fun w' => Below w.heap.size w w') (first | exact ST.out | assumption | exact Below.alloc (by assumption) (Below.size (by assumption)) _)
        (first | (go_at_call_of 8 (Value.slice a 0 0); refine (HS0.out _ _ _).mono ?_; rintro e w' ⟨rfl, rfl⟩) | (go_at_call 8; refine (HS2.out _ _ ?_).mono ?_; (exact (Row.new2 _ _ _ _ f0 f0).drew); rintro e w' ⟨rfl, rfl⟩))
      go_wp2
      go_ret
      exact ⟨by simp, by assumption⟩
    · go_region_held3 (fun w' => Below w.heap.size w w') (first | exact ST.out | assumption | exact Below.alloc (by assumption) (Below.size (by assumption)) _)
        (first | (go_at_call_of 8 (Value.slice a 0 cap); refine (HS0.out _ _ _).mono ?_; rintro e w' ⟨rfl, rfl⟩) | (go_at_call 8; refine (HS2.out _ _ ?_).mono ?_; (exact (Row.new2 _ _ _ _ f0 f0).drew); rintro e w' ⟨rfl, rfl⟩))
      go_wp2
      go_ret
      exact ⟨by simp, by assumption⟩
end Go.Proofs.Ytpfggggoidfffaa
