import Derived.Test.YtggnaalcdekccaaRef7
namespace Go.Proofs.Ytggnaalcdekccaa
open Go.ChangeShapes Go.WideShapes Go.ChangeAt Go.RowKit
set_option linter.unusedVariables false
theorem keepSL {w W w' : World} (k0 k1 k2 k3 k4 : Int) (l0 l1 l2 l3 l4 : Int) (a : Option Addr) (len : Nat) (xs : List Int) (h : Below w.heap.size w W ∧ (w.heap.size < W.heap.size ∧ W.cell? ⟨w.heap.size, 0, none⟩ = some (.int .i64 k0) ∧ W.cell? ⟨w.heap.size, 1, none⟩ = some (.int .i64 k1) ∧ W.cell? ⟨w.heap.size, 2, none⟩ = some (.int .i64 k2) ∧ W.cell? ⟨w.heap.size, 3, none⟩ = some (.int .i64 k3) ∧ W.cell? ⟨w.heap.size, 4, none⟩ = some (.int .u32 k4)) ∧ ((w.heap.size + 1) < W.heap.size ∧ W.cell? ⟨(w.heap.size + 1), 0, none⟩ = some (.int .i64 l0) ∧ W.cell? ⟨(w.heap.size + 1), 1, none⟩ = some (.int .i64 l1) ∧ W.cell? ⟨(w.heap.size + 1), 2, none⟩ = some (.int .i64 l2) ∧ W.cell? ⟨(w.heap.size + 1), 3, none⟩ = some (.int .i64 l3) ∧ W.cell? ⟨(w.heap.size + 1), 4, none⟩ = some (.int .u32 l4)) ∧ RowI W a len xs) (hb : Below W.heap.size W w') : Below w.heap.size w w' ∧ (w.heap.size < w'.heap.size ∧ w'.cell? ⟨w.heap.size, 0, none⟩ = some (.int .i64 k0) ∧ w'.cell? ⟨w.heap.size, 1, none⟩ = some (.int .i64 k1) ∧ w'.cell? ⟨w.heap.size, 2, none⟩ = some (.int .i64 k2) ∧ w'.cell? ⟨w.heap.size, 3, none⟩ = some (.int .i64 k3) ∧ w'.cell? ⟨w.heap.size, 4, none⟩ = some (.int .u32 k4)) ∧ ((w.heap.size + 1) < w'.heap.size ∧ w'.cell? ⟨(w.heap.size + 1), 0, none⟩ = some (.int .i64 l0) ∧ w'.cell? ⟨(w.heap.size + 1), 1, none⟩ = some (.int .i64 l1) ∧ w'.cell? ⟨(w.heap.size + 1), 2, none⟩ = some (.int .i64 l2) ∧ w'.cell? ⟨(w.heap.size + 1), 3, none⟩ = some (.int .i64 l3) ∧ w'.cell? ⟨(w.heap.size + 1), 4, none⟩ = some (.int .u32 l4)) ∧ RowI w' a len xs := by
  obtain ⟨h0, h1, h2, h3⟩ := h
  exact ⟨h0.trans (hb.mono h0.size), keep5 h1 hb, keep5 h2 hb, h3.below hb⟩
theorem startSL (w : World) (k0 k1 k2 k3 k4 : Int) (l0 l1 l2 l3 l4 : Int) (a : Option Addr) (len : Nat) (xs : List Int) (hx : RowI w a len xs) : Below w.heap.size w ((w.alloc (.cells #[.int .i64 k0, .int .i64 k1, .int .i64 k2, .int .i64 k3, .int .u32 k4] 24)).alloc (.cells #[.int .i64 l0, .int .i64 l1, .int .i64 l2, .int .i64 l3, .int .u32 l4] 24)) ∧ (w.heap.size < ((w.alloc (.cells #[.int .i64 k0, .int .i64 k1, .int .i64 k2, .int .i64 k3, .int .u32 k4] 24)).alloc (.cells #[.int .i64 l0, .int .i64 l1, .int .i64 l2, .int .i64 l3, .int .u32 l4] 24)).heap.size ∧ ((w.alloc (.cells #[.int .i64 k0, .int .i64 k1, .int .i64 k2, .int .i64 k3, .int .u32 k4] 24)).alloc (.cells #[.int .i64 l0, .int .i64 l1, .int .i64 l2, .int .i64 l3, .int .u32 l4] 24)).cell? ⟨w.heap.size, 0, none⟩ = some (.int .i64 k0) ∧ ((w.alloc (.cells #[.int .i64 k0, .int .i64 k1, .int .i64 k2, .int .i64 k3, .int .u32 k4] 24)).alloc (.cells #[.int .i64 l0, .int .i64 l1, .int .i64 l2, .int .i64 l3, .int .u32 l4] 24)).cell? ⟨w.heap.size, 1, none⟩ = some (.int .i64 k1) ∧ ((w.alloc (.cells #[.int .i64 k0, .int .i64 k1, .int .i64 k2, .int .i64 k3, .int .u32 k4] 24)).alloc (.cells #[.int .i64 l0, .int .i64 l1, .int .i64 l2, .int .i64 l3, .int .u32 l4] 24)).cell? ⟨w.heap.size, 2, none⟩ = some (.int .i64 k2) ∧ ((w.alloc (.cells #[.int .i64 k0, .int .i64 k1, .int .i64 k2, .int .i64 k3, .int .u32 k4] 24)).alloc (.cells #[.int .i64 l0, .int .i64 l1, .int .i64 l2, .int .i64 l3, .int .u32 l4] 24)).cell? ⟨w.heap.size, 3, none⟩ = some (.int .i64 k3) ∧ ((w.alloc (.cells #[.int .i64 k0, .int .i64 k1, .int .i64 k2, .int .i64 k3, .int .u32 k4] 24)).alloc (.cells #[.int .i64 l0, .int .i64 l1, .int .i64 l2, .int .i64 l3, .int .u32 l4] 24)).cell? ⟨w.heap.size, 4, none⟩ = some (.int .u32 k4)) ∧ ((w.heap.size + 1) < ((w.alloc (.cells #[.int .i64 k0, .int .i64 k1, .int .i64 k2, .int .i64 k3, .int .u32 k4] 24)).alloc (.cells #[.int .i64 l0, .int .i64 l1, .int .i64 l2, .int .i64 l3, .int .u32 l4] 24)).heap.size ∧ ((w.alloc (.cells #[.int .i64 k0, .int .i64 k1, .int .i64 k2, .int .i64 k3, .int .u32 k4] 24)).alloc (.cells #[.int .i64 l0, .int .i64 l1, .int .i64 l2, .int .i64 l3, .int .u32 l4] 24)).cell? ⟨(w.heap.size + 1), 0, none⟩ = some (.int .i64 l0) ∧ ((w.alloc (.cells #[.int .i64 k0, .int .i64 k1, .int .i64 k2, .int .i64 k3, .int .u32 k4] 24)).alloc (.cells #[.int .i64 l0, .int .i64 l1, .int .i64 l2, .int .i64 l3, .int .u32 l4] 24)).cell? ⟨(w.heap.size + 1), 1, none⟩ = some (.int .i64 l1) ∧ ((w.alloc (.cells #[.int .i64 k0, .int .i64 k1, .int .i64 k2, .int .i64 k3, .int .u32 k4] 24)).alloc (.cells #[.int .i64 l0, .int .i64 l1, .int .i64 l2, .int .i64 l3, .int .u32 l4] 24)).cell? ⟨(w.heap.size + 1), 2, none⟩ = some (.int .i64 l2) ∧ ((w.alloc (.cells #[.int .i64 k0, .int .i64 k1, .int .i64 k2, .int .i64 k3, .int .u32 k4] 24)).alloc (.cells #[.int .i64 l0, .int .i64 l1, .int .i64 l2, .int .i64 l3, .int .u32 l4] 24)).cell? ⟨(w.heap.size + 1), 3, none⟩ = some (.int .i64 l3) ∧ ((w.alloc (.cells #[.int .i64 k0, .int .i64 k1, .int .i64 k2, .int .i64 k3, .int .u32 k4] 24)).alloc (.cells #[.int .i64 l0, .int .i64 l1, .int .i64 l2, .int .i64 l3, .int .u32 l4] 24)).cell? ⟨(w.heap.size + 1), 4, none⟩ = some (.int .u32 l4)) ∧ RowI ((w.alloc (.cells #[.int .i64 k0, .int .i64 k1, .int .i64 k2, .int .i64 k3, .int .u32 k4] 24)).alloc (.cells #[.int .i64 l0, .int .i64 l1, .int .i64 l2, .int .i64 l3, .int .u32 l4] 24)) a len xs := by
  have hb1 : Below w.heap.size w (w.alloc (.cells #[.int .i64 k0, .int .i64 k1, .int .i64 k2, .int .i64 k3, .int .u32 k4] 24)) := (Below.refl _ _).alloc (Nat.le_refl _) _
  have n2 := new5 (w.alloc (.cells #[.int .i64 k0, .int .i64 k1, .int .i64 k2, .int .i64 k3, .int .u32 k4] 24)) l0 l1 l2 l3 l4
  have e : (w.alloc (.cells #[.int .i64 k0, .int .i64 k1, .int .i64 k2, .int .i64 k3, .int .u32 k4] 24)).heap.size = w.heap.size + 1 := by simp
  rw [e] at n2
  exact ⟨((Below.refl _ _).alloc (Nat.le_refl _) _).alloc (by simp) _, keep5_alloc (new5 w k0 k1 k2 k3 k4) _, n2, (hx.below hb1).below ((Below.refl _ _).alloc (Nat.le_refl _) _)⟩
set_option maxHeartbeats 16000000 in
theorem says_walk (k0 k1 k2 k3 k4 : Int) (l0 l1 l2 l3 l4 : Int) (r0 r1 r2 r3 r4 : Int) (q0 q1 q2 q3 q4 : Int) (rt x3 bt : Int) (s u v : Bool) (a : Option Addr) (len cap : Nat) (xs : List Int) (w : World) (hx : RowI w a len xs) (hl8 : len ≤ 8)
    (gk : k4 ≤ 4294967295) (gl : l4 ≤ 4294967295) (hk : Hid (codeOf k0 k1 k2 k3 k4 = 0)) (hl : Hid (codeOf l0 l1 l2 l3 l4 = 0)) (hr0 : 0 ≤ rt) (hr7 : rt ≤ 7)
    (hbt : Hid (lessR 0 xs = bt)) (hx3 : Hid (lessK k0 k3 xs = x3))
    (cW : Hid (∀ W : World, Calls Try.prog 9 #[(Value.agg #[.int .i64 k0, .int .i64 k1, .int .i64 k2, .int .i64 k3, .int .u32 k4])] W fun e w' => e = .returned (Value.agg #[.int .i64 r0, .int .i64 r1, .int .i64 r2, .int .i64 r3, .int .u32 r4]) ∧ Below W.heap.size W w')) (cW' : Hid (∀ W : World, Calls Try.prog 10 #[(Value.agg #[.int .i64 k0, .int .i64 k1, .int .i64 k2, .int .i64 k3, .int .u32 k4])] W fun e w' => e = .returned (Value.agg #[.int .i64 r0, .int .i64 r1, .int .i64 r2, .int .i64 r3, .int .u32 r4]) ∧ Below W.heap.size W w'))
    (cL' : Hid (∀ W : World, Calls Try.prog 12 #[(Value.agg #[.int .i64 k0, .int .i64 k1, .int .i64 k2, .int .i64 k3, .int .u32 k4]), .int .i64 bt] W fun e w' => e = .returned (.agg #[.int .i64 k0, .int .i64 k1, .int .i64 k2, .int .i64 x3, .int .u32 k4]) ∧ Below W.heap.size W w'))
    (cT : Hid (∀ W : World, Calls Try.prog 13 #[.int .i64 rt, (Value.agg #[.int .i64 k0, .int .i64 k1, .int .i64 k2, .int .i64 k3, .int .u32 k4])] W fun e w' => e = .returned (Value.agg #[.int .i64 q0, .int .i64 q1, .int .i64 q2, .int .i64 q3, .int .u32 q4]) ∧ Below W.heap.size W w')) (cT' : Hid (∀ W : World, Calls Try.prog 14 #[.int .i64 rt, (Value.agg #[.int .i64 k0, .int .i64 k1, .int .i64 k2, .int .i64 k3, .int .u32 k4])] W fun e w' => e = .returned (Value.agg #[.int .i64 q0, .int .i64 q1, .int .i64 q2, .int .i64 q3, .int .u32 q4]) ∧ Below W.heap.size W w'))
    (cS : Hid (∀ W : World, Calls Try.prog 15 #[(Value.agg #[.int .i64 k0, .int .i64 k1, .int .i64 k2, .int .i64 k3, .int .u32 k4])] W fun e w' => e = .returned (.bool s) ∧ Below W.heap.size W w')) (cS' : Hid (∀ W : World, Calls Try.prog 16 #[(Value.agg #[.int .i64 k0, .int .i64 k1, .int .i64 k2, .int .i64 k3, .int .u32 k4])] W fun e w' => e = .returned (.bool s) ∧ Below W.heap.size W w'))
    (cU : Hid (∀ W : World, Calls Try.prog 17 #[(Value.agg #[.int .i64 k0, .int .i64 k1, .int .i64 k2, .int .i64 k3, .int .u32 k4])] W fun e w' => e = .returned (.bool u) ∧ Below W.heap.size W w')) (cU' : Hid (∀ W : World, Calls Try.prog 18 #[(Value.agg #[.int .i64 k0, .int .i64 k1, .int .i64 k2, .int .i64 k3, .int .u32 k4])] W fun e w' => e = .returned (.bool u) ∧ Below W.heap.size W w'))
    (cV : Hid (∀ W : World, Calls Try.prog 19 #[(Value.agg #[.int .i64 k0, .int .i64 k1, .int .i64 k2, .int .i64 k3, .int .u32 k4]), (Value.agg #[.int .i64 l0, .int .i64 l1, .int .i64 l2, .int .i64 l3, .int .u32 l4])] W fun e w' => e = .returned (.bool v) ∧ Below W.heap.size W w')) (cV' : Hid (∀ W : World, Calls Try.prog 20 #[(Value.agg #[.int .i64 k0, .int .i64 k1, .int .i64 k2, .int .i64 k3, .int .u32 k4]), (Value.agg #[.int .i64 l0, .int .i64 l1, .int .i64 l2, .int .i64 l3, .int .u32 l4])] W fun e w' => e = .returned (.bool v) ∧ Below W.heap.size W w')) :
    Calls Try.prog 3 #[(Value.agg #[.int .i64 k0, .int .i64 k1, .int .i64 k2, .int .i64 k3, .int .u32 k4]), (Value.agg #[.int .i64 l0, .int .i64 l1, .int .i64 l2, .int .i64 l3, .int .u32 l4]), .int .i64 rt, .slice a len cap] w fun e w' => e = .returned (.bool true) ∧ Below w.heap.size w w' := by
  have HX := Lib.hid hx
  have HSt := Lib.hid (startSL w k0 k1 k2 k3 k4 l0 l1 l2 l3 l4 a len xs hx)
  clear hx
  have d1 : decide ((8 : Int) < (len : Int)) = false := by rw [decide_eq_false_iff_not]; omega
  have d2 : decide (rt < 0) = false := by rw [decide_eq_false_iff_not]; omega
  have d3 : decide (7 < rt) = false := by rw [decide_eq_false_iff_not]; omega
  go_enter Try.func3, Try.ntmps3
  go_wp2_with (first
    | (go_at_call 6; refine (first_any _).mono ?_; rintro e w0 ⟨rfl, hb⟩; have hS0 := keepSL k0 k1 k2 k3 k4 l0 l1 l2 l3 l4 a len xs HSt.out hb; have HS0 := Lib.hid hS0; have K0 := hS0.2.1; have L0 := hS0.2.2.1; clear hb hS0)
    | (go_at_call 7; with_reducible refine (valid_is k0 k1 k2 k3 k4 0 hk gk _).mono ?_; rintro e w1 ⟨rfl, hb⟩; have hS1 := keepSL k0 k1 k2 k3 k4 l0 l1 l2 l3 l4 a len xs HS0.out hb; have HS1 := Lib.hid hS1; have L1 := hS1.2.2.1; clear hb hS1 K0 L0)
    | (go_at_call 7; with_reducible refine (valid_is l0 l1 l2 l3 l4 0 hl gl _).mono ?_; rintro e w2 ⟨rfl, hb⟩; have hS2 := keepSL k0 k1 k2 k3 k4 l0 l1 l2 l3 l4 a len xs HS1.out hb; have HS2 := Lib.hid hS2; clear hb hS2 L1))
  have hS2 := HS2.out
  have HC := Lib.hid hS2.2.2.2
  have hlen := Lib.hid HC.out.len_eq
  have ST : Hid (Below w.heap.size w w2.drew ∧ (w.heap.size < w2.drew.heap.size ∧ w2.drew.cell? ⟨w.heap.size, 0, none⟩ = some (.int .i64 k0) ∧ w2.drew.cell? ⟨w.heap.size, 1, none⟩ = some (.int .i64 k1) ∧ w2.drew.cell? ⟨w.heap.size, 2, none⟩ = some (.int .i64 k2) ∧ w2.drew.cell? ⟨w.heap.size, 3, none⟩ = some (.int .i64 k3) ∧ w2.drew.cell? ⟨w.heap.size, 4, none⟩ = some (.int .u32 k4)) ∧ ((w.heap.size + 1) < w2.drew.heap.size ∧ w2.drew.cell? ⟨(w.heap.size + 1), 0, none⟩ = some (.int .i64 l0) ∧ w2.drew.cell? ⟨(w.heap.size + 1), 1, none⟩ = some (.int .i64 l1) ∧ w2.drew.cell? ⟨(w.heap.size + 1), 2, none⟩ = some (.int .i64 l2) ∧ w2.drew.cell? ⟨(w.heap.size + 1), 3, none⟩ = some (.int .i64 l3) ∧ w2.drew.cell? ⟨(w.heap.size + 1), 4, none⟩ = some (.int .u32 l4)) ∧ RowI w2.drew a len xs) := Lib.hid ⟨hS2.1.drew, hS2.2.1, hS2.2.2.1, ⟨HC.out.1, HC.out.2⟩⟩
  clear hS2
  go_loop [10, 11] (fun b i => ∃ j : Nat, j ≤ len ∧ i = .int .i64 j ∧ b = .int .i64 (lessR 0 (xs.take j))) (fun _ i => len - (intOf i).toNat)
  case atStart => exact ⟨0, Nat.zero_le _, rfl, rfl⟩
  case round =>
    obtain ⟨j, hj, rfl, rfl⟩ := hrel
    by_cases hlt : j < len
    · obtain ⟨x, hx⟩ : ∃ x, xs.getD j 0 = x := ⟨_, rfl⟩
      have H1 : lessR 0 (xs.take (j + 1)) = lessOne (lessR 0 (xs.take j)) x := by rw [take_snoc xs j (by rw [hlen.out]; exact hlt), lessR_snoc, hx]
      rcases HC.out.2 with h0 | ⟨b, off, rfl, hbl, hc⟩
      · omega
      have hcell : w2.cell? ⟨b, off + j, none⟩ = some (.int .i64 x) := by rw [← hx]; exact hc j hlt
      clear hx hc
      by_cases hx1 : x = 1 ∨ x = 2 ∨ x = 4
      · have HN : Hid (lessR 0 (xs.take (j + 1)) = bits BinOp.or IntKind.i64 (lessR 0 (xs.take j)) x) := Lib.hid (H1.trans (if_pos hx1))
        clear H1
        rcases hx1 with rfl | rfl | rfl
        all_goals
          go_wp2
          go_round
          case rel => exact ⟨j + 1, by omega, by go_num, by rw [HN.out]⟩
          case measure => simp [intOf]; omega
      · have HN : Hid (lessR 0 (xs.take (j + 1)) = lessR 0 (xs.take j)) := Lib.hid (H1.trans (if_neg hx1))
        have e1 : (x == 1) = false := by simp; omega
        have e2 : (x == 2) = false := by simp; omega
        have e4 : (x == 4) = false := by simp; omega
        clear H1
        go_wp2
        go_round
        case rel => exact ⟨j + 1, by omega, by go_num, by rw [HN.out]⟩
        case measure => simp [intOf]; omega
    · have he : xs.take j = xs := List.take_of_length_le (by rw [hlen.out]; omega)
      go_wp2
      rw [hbt.out]
      clear he
      go_region_held3 (fun w' => Below w.heap.size w w' ∧ (w.heap.size < w'.heap.size ∧ w'.cell? ⟨w.heap.size, 0, none⟩ = some (.int .i64 k0) ∧ w'.cell? ⟨w.heap.size, 1, none⟩ = some (.int .i64 k1) ∧ w'.cell? ⟨w.heap.size, 2, none⟩ = some (.int .i64 k2) ∧ w'.cell? ⟨w.heap.size, 3, none⟩ = some (.int .i64 k3) ∧ w'.cell? ⟨w.heap.size, 4, none⟩ = some (.int .u32 k4)) ∧ ((w.heap.size + 1) < w'.heap.size ∧ w'.cell? ⟨(w.heap.size + 1), 0, none⟩ = some (.int .i64 l0) ∧ w'.cell? ⟨(w.heap.size + 1), 1, none⟩ = some (.int .i64 l1) ∧ w'.cell? ⟨(w.heap.size + 1), 2, none⟩ = some (.int .i64 l2) ∧ w'.cell? ⟨(w.heap.size + 1), 3, none⟩ = some (.int .i64 l3) ∧ w'.cell? ⟨(w.heap.size + 1), 4, none⟩ = some (.int .u32 l4)) ∧ RowI w' a len xs) (first | exact ST.out | assumption | exact keepSL k0 k1 k2 k3 k4 l0 l1 l2 l3 l4 a len xs (by assumption) hb)
        (first
          | (go_at_call 9; refine (cW.out _).mono ?_; rintro e w' ⟨rfl, hb⟩)
          | (go_at_call 10; refine (cW'.out _).mono ?_; rintro e w' ⟨rfl, hb⟩)
          | (go_at_call 8; refine (same_is _ _ _ _ _ _ _ _ _ _ true (same_self _ _ _ _ _) _).mono ?_; rintro e w' ⟨rfl, hb⟩)
          | (go_at_call 11; refine (less_any k0 k1 k2 k3 k4 a len cap xs _ ?_ ?_ x3 hx3).mono ?_; (exact And.right (And.right (And.right (by assumption)))); omega; rintro e w' ⟨rfl, hb⟩)
          | (go_at_call 12; refine (cL'.out _).mono ?_; rintro e w' ⟨rfl, hb⟩)
          | (go_at_call 13; refine (cT.out _).mono ?_; rintro e w' ⟨rfl, hb⟩)
          | (go_at_call 14; refine (cT'.out _).mono ?_; rintro e w' ⟨rfl, hb⟩)
          | (go_at_call 15; refine (cS.out _).mono ?_; rintro e w' ⟨rfl, hb⟩)
          | (go_at_call 16; refine (cS'.out _).mono ?_; rintro e w' ⟨rfl, hb⟩)
          | (go_at_call 17; refine (cU.out _).mono ?_; rintro e w' ⟨rfl, hb⟩)
          | (go_at_call 18; refine (cU'.out _).mono ?_; rintro e w' ⟨rfl, hb⟩)
          | (go_at_call 19; refine (cV.out _).mono ?_; rintro e w' ⟨rfl, hb⟩)
          | (go_at_call 20; refine (cV'.out _).mono ?_; rintro e w' ⟨rfl, hb⟩))
      go_wp2
      go_ret
      refine ⟨by simp, ?_⟩
      apply And.left
      assumption
end Go.Proofs.Ytggnaalcdekccaa
