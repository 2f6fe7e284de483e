import Derived.Test.YtggnaalcdekccabTurn
namespace Go.Proofs.Ytggnaalcdekccab
open Go.ChangeShapes Go.WideShapes Go.ChangeAt Go.RowKit
set_option linter.unusedVariables false
theorem rless_early (k0 k1 k2 k3 k4 : Int) (c : Int) (a : Option Addr) (len cap : Nat) (w : World) (hm : len ≤ 9223372036854775807) (gk : k4 ≤ 4294967295) (hk : Hid (codeOf k0 k1 k2 k3 k4 = c)) (hc : 8 < len ∨ c = 102 ∨ c = 103) :
    Calls Try.prog 3 #[(Value.agg #[.int .i64 k0, .int .i64 k1, .int .i64 k2, .int .i64 k3, .int .u32 k4]), .slice a len cap] w fun e w' => e = .returned (.bool true) ∧ Below w.heap.size w w' := by
  by_cases h1 : 8 < len
  · have d1 : decide ((8 : Int) < (len : Int)) = true := by rw [decide_eq_true_iff]; omega
    clear hc
    go_enter Try.func3, Try.ntmps3; go_wp2_with (first | (go_at_call 8; refine (first_any _).mono ?_; rintro e w0 ⟨rfl, hb⟩; have Ka := keep5 (new5 w k0 k1 k2 k3 k4) hb; have Bb := Lib.hid (Below.trans ((Below.refl _ _).alloc (Nat.le_refl _) _) (hb.mono (by simp))); clear hb) | (go_at_call 9; (with_reducible refine (valid_is k0 k1 k2 k3 k4 _ hk gk _).mono ?_); rintro e w1 ⟨rfl, hb⟩; replace Bb := Lib.hid (Bb.out.trans (hb.mono Bb.out.size)); clear hb)); go_ret; exact ⟨rfl, Bb.out⟩
  have d1 : decide ((8 : Int) < (len : Int)) = false := by rw [decide_eq_false_iff_not]; omega
  have hc' : c = 102 ∨ c = 103 := by omega
  clear hc h1
  rcases hc' with rfl | rfl
  · go_enter Try.func3, Try.ntmps3; go_wp2_with (first | (go_at_call 8; refine (first_any _).mono ?_; rintro e w0 ⟨rfl, hb⟩; have Ka := keep5 (new5 w k0 k1 k2 k3 k4) hb; have Bb := Lib.hid (Below.trans ((Below.refl _ _).alloc (Nat.le_refl _) _) (hb.mono (by simp))); clear hb) | (go_at_call 9; (with_reducible refine (valid_is k0 k1 k2 k3 k4 _ hk gk _).mono ?_); rintro e w1 ⟨rfl, hb⟩; replace Bb := Lib.hid (Bb.out.trans (hb.mono Bb.out.size)); clear hb)); go_ret; exact ⟨rfl, Bb.out⟩
  · go_enter Try.func3, Try.ntmps3; go_wp2_with (first | (go_at_call 8; refine (first_any _).mono ?_; rintro e w0 ⟨rfl, hb⟩; have Ka := keep5 (new5 w k0 k1 k2 k3 k4) hb; have Bb := Lib.hid (Below.trans ((Below.refl _ _).alloc (Nat.le_refl _) _) (hb.mono (by simp))); clear hb) | (go_at_call 9; (with_reducible refine (valid_is k0 k1 k2 k3 k4 _ hk gk _).mono ?_); rintro e w1 ⟨rfl, hb⟩; replace Bb := Lib.hid (Bb.out.trans (hb.mono Bb.out.size)); clear hb)); go_ret; exact ⟨rfl, Bb.out⟩
theorem rowI_of {w : World} {a : Option Addr} {len cap : Nat} {z : List Int} (h : IsRow .i64 w a len cap z) : RowI w a len (z.take len) ∧ len ≤ 9223372036854775807 := by
  rcases h with ⟨rfl, rfl, rfl, rfl⟩ | ⟨x, rfl, hl, hm, hz, hcell, hwz⟩
  · exact ⟨⟨rfl, .inl rfl⟩, by omega⟩
  · refine ⟨⟨by simp; omega, ?_⟩, by unfold maxLen at hm; omega⟩
    by_cases h0 : len = 0
    · exact .inl h0
    · obtain ⟨b, off, spot⟩ := x
      have hspot : spot = none := by simpa [Addr.add] using World.cell?_spot (hcell 0 (by omega))
      subst hspot
      have hat : ∀ i, i < len → w.cell? ⟨b, off + i, none⟩ = some (.int .i64 ((z.take len).getD i 0)) := fun i hi => by
        have hg : (z.take len).getD i 0 = z.getD i 0 := by simp [List.getD, hi]
        rw [hg]
        have := hcell i (by omega)
        by_cases hi0 : i = 0
        · subst hi0; simpa [Addr.add] using this
        · simpa [Addr.add, hi0] using this
      exact .inr ⟨b, off, rfl, World.block_lt_of_cell? w _ (hat 0 (by omega)), hat⟩
theorem walk_RightLess (x0_0 : Int) (x0_1 : Int) (x0_2 : Int) (x0_3 : Int) (x0_4 : Int) (a1 : Option Addr) (len1 cap1 : Nat) (z1 : List Int) (w : World) (wx0_0 : (Lit.int .i64 x0_0).wf = true) (wx0_1 : (Lit.int .i64 x0_1).wf = true) (wx0_2 : (Lit.int .i64 x0_2).wf = true) (wx0_3 : (Lit.int .i64 x0_3).wf = true) (wx0_4 : (Lit.int .u32 x0_4).wf = true) (w1 : IsRow .i64 w a1 len1 cap1 z1) :
    Calls Try.prog 3 #[.agg #[.int .i64 x0_0, .int .i64 x0_1, .int .i64 x0_2, .int .i64 x0_3, .int .u32 x0_4], .slice a1 len1 cap1] w fun e w' => e = .returned (.bool true) ∧ Below w.heap.size w w' := by
  have gk := fits32 wx0_4
  obtain ⟨hrow, hm⟩ := rowI_of w1
  by_cases he : 8 < len1 ∨ codeOf x0_0 x0_1 x0_2 x0_3 x0_4 = 102 ∨ codeOf x0_0 x0_1 x0_2 x0_3 x0_4 = 103
  · exact rless_early _ _ _ _ _ _ a1 len1 cap1 w hm gk (Lib.hid rfl) he
  · have hk : codeOf x0_0 x0_1 x0_2 x0_3 x0_4 = 0 := by have := code_cases x0_0 x0_1 x0_2 x0_3 x0_4; omega
    exact rless_loop x0_0 x0_1 x0_2 x0_3 x0_4 a1 len1 cap1 _ w (Lib.hid hrow) (by omega) gk (Lib.hid hk)
end Go.Proofs.Ytggnaalcdekccab
