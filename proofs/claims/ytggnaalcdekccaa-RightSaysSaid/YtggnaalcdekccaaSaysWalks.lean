import Derived.Test.YtggnaalcdekccaaSays
import Derived.Test.YtggnaalcdekccaaRightLaws
namespace Go.Proofs.Ytggnaalcdekccaa
open Go.ChangeShapes Go.WideShapes Go.ChangeAt Go.RowKit
set_option linter.unusedVariables false
theorem says_early (k0 k1 k2 k3 k4 : Int) (l0 l1 l2 l3 l4 : Int) (rt c d : Int) (a : Option Addr) (len cap : Nat) (w : World) (hm : len ≤ 9223372036854775807)
    (gk : k4 ≤ 4294967295) (gl : l4 ≤ 4294967295) (hk : Hid (codeOf k0 k1 k2 k3 k4 = c)) (hl : Hid (codeOf l0 l1 l2 l3 l4 = d))
    (hc : 8 < len ∨ rt < 0 ∨ 7 < rt ∨ c = 102 ∨ c = 103 ∨ (c = 0 ∧ (d = 102 ∨ d = 103))) :
    Calls Try.prog 3 #[(Value.agg #[.int .i64 k0, .int .i64 k1, .int .i64 k2, .int .i64 k3, .int .u32 k4]), (Value.agg #[.int .i64 l0, .int .i64 l1, .int .i64 l2, .int .i64 l3, .int .u32 l4]), .int .i64 rt, .slice a len cap] w fun e w' => e = .returned (.bool true) ∧ Below w.heap.size w w' := by
  have HSt := Lib.hid (startSL w k0 k1 k2 k3 k4 l0 l1 l2 l3 l4 none 0 [] ⟨rfl, .inl rfl⟩)
  by_cases h1 : 8 < len
  · have d1 : decide ((8 : Int) < (len : Int)) = true := by rw [decide_eq_true_iff]; omega
    clear hc
    go_enter Try.func3, Try.ntmps3; go_wp2_with (first | (go_at_call 6; refine (first_any _).mono ?_; rintro e w0 ⟨rfl, hb⟩; have hS0 := keepSL k0 k1 k2 k3 k4 l0 l1 l2 l3 l4 none 0 [] HSt.out hb; have HS0 := Lib.hid hS0; have B := Lib.hid hS0.1; have K0 := hS0.2.1; have L0 := hS0.2.2.1; clear hb hS0) | (go_at_call 7; with_reducible refine (valid_is k0 k1 k2 k3 k4 _ hk gk _).mono ?_; rintro e w1 ⟨rfl, hb⟩; have hS1 := keepSL k0 k1 k2 k3 k4 l0 l1 l2 l3 l4 none 0 [] HS0.out hb; have HS1 := Lib.hid hS1; have L1 := hS1.2.2.1; replace B := Lib.hid hS1.1; clear hb hS1 K0 L0) | (go_at_call 7; with_reducible refine (valid_is l0 l1 l2 l3 l4 _ hl gl _).mono ?_; rintro e w2 ⟨rfl, hb⟩; have hS2 := keepSL k0 k1 k2 k3 k4 l0 l1 l2 l3 l4 none 0 [] HS1.out hb; replace B := Lib.hid hS2.1; clear hb hS2 L1)); go_ret; exact ⟨rfl, B.out⟩
  have d1 : decide ((8 : Int) < (len : Int)) = false := by rw [decide_eq_false_iff_not]; omega
  by_cases h2 : rt < 0
  · have d2 : decide (rt < 0) = true := by rw [decide_eq_true_iff]; omega
    clear hc
    go_enter Try.func3, Try.ntmps3; go_wp2_with (first | (go_at_call 6; refine (first_any _).mono ?_; rintro e w0 ⟨rfl, hb⟩; have hS0 := keepSL k0 k1 k2 k3 k4 l0 l1 l2 l3 l4 none 0 [] HSt.out hb; have HS0 := Lib.hid hS0; have B := Lib.hid hS0.1; have K0 := hS0.2.1; have L0 := hS0.2.2.1; clear hb hS0) | (go_at_call 7; with_reducible refine (valid_is k0 k1 k2 k3 k4 _ hk gk _).mono ?_; rintro e w1 ⟨rfl, hb⟩; have hS1 := keepSL k0 k1 k2 k3 k4 l0 l1 l2 l3 l4 none 0 [] HS0.out hb; have HS1 := Lib.hid hS1; have L1 := hS1.2.2.1; replace B := Lib.hid hS1.1; clear hb hS1 K0 L0) | (go_at_call 7; with_reducible refine (valid_is l0 l1 l2 l3 l4 _ hl gl _).mono ?_; rintro e w2 ⟨rfl, hb⟩; have hS2 := keepSL k0 k1 k2 k3 k4 l0 l1 l2 l3 l4 none 0 [] HS1.out hb; replace B := Lib.hid hS2.1; clear hb hS2 L1)); go_ret; exact ⟨rfl, B.out⟩
  have d2 : decide (rt < 0) = false := by rw [decide_eq_false_iff_not]; omega
  by_cases h3 : 7 < rt
  · have d3 : decide (7 < rt) = true := by rw [decide_eq_true_iff]; omega
    clear hc
    go_enter Try.func3, Try.ntmps3; go_wp2_with (first | (go_at_call 6; refine (first_any _).mono ?_; rintro e w0 ⟨rfl, hb⟩; have hS0 := keepSL k0 k1 k2 k3 k4 l0 l1 l2 l3 l4 none 0 [] HSt.out hb; have HS0 := Lib.hid hS0; have B := Lib.hid hS0.1; have K0 := hS0.2.1; have L0 := hS0.2.2.1; clear hb hS0) | (go_at_call 7; with_reducible refine (valid_is k0 k1 k2 k3 k4 _ hk gk _).mono ?_; rintro e w1 ⟨rfl, hb⟩; have hS1 := keepSL k0 k1 k2 k3 k4 l0 l1 l2 l3 l4 none 0 [] HS0.out hb; have HS1 := Lib.hid hS1; have L1 := hS1.2.2.1; replace B := Lib.hid hS1.1; clear hb hS1 K0 L0) | (go_at_call 7; with_reducible refine (valid_is l0 l1 l2 l3 l4 _ hl gl _).mono ?_; rintro e w2 ⟨rfl, hb⟩; have hS2 := keepSL k0 k1 k2 k3 k4 l0 l1 l2 l3 l4 none 0 [] HS1.out hb; replace B := Lib.hid hS2.1; clear hb hS2 L1)); go_ret; exact ⟨rfl, B.out⟩
  have d3 : decide (7 < rt) = false := by rw [decide_eq_false_iff_not]; omega
  have hc' : c = 102 ∨ c = 103 ∨ (c = 0 ∧ (d = 102 ∨ d = 103)) := by omega
  clear hc h1 h2 h3
  rcases hc' with rfl | rfl | ⟨rfl, rfl | rfl⟩
  · go_enter Try.func3, Try.ntmps3; go_wp2_with (first | (go_at_call 6; refine (first_any _).mono ?_; rintro e w0 ⟨rfl, hb⟩; have hS0 := keepSL k0 k1 k2 k3 k4 l0 l1 l2 l3 l4 none 0 [] HSt.out hb; have HS0 := Lib.hid hS0; have B := Lib.hid hS0.1; have K0 := hS0.2.1; have L0 := hS0.2.2.1; clear hb hS0) | (go_at_call 7; with_reducible refine (valid_is k0 k1 k2 k3 k4 _ hk gk _).mono ?_; rintro e w1 ⟨rfl, hb⟩; have hS1 := keepSL k0 k1 k2 k3 k4 l0 l1 l2 l3 l4 none 0 [] HS0.out hb; have HS1 := Lib.hid hS1; have L1 := hS1.2.2.1; replace B := Lib.hid hS1.1; clear hb hS1 K0 L0) | (go_at_call 7; with_reducible refine (valid_is l0 l1 l2 l3 l4 _ hl gl _).mono ?_; rintro e w2 ⟨rfl, hb⟩; have hS2 := keepSL k0 k1 k2 k3 k4 l0 l1 l2 l3 l4 none 0 [] HS1.out hb; replace B := Lib.hid hS2.1; clear hb hS2 L1)); go_ret; exact ⟨rfl, B.out⟩
  · go_enter Try.func3, Try.ntmps3; go_wp2_with (first | (go_at_call 6; refine (first_any _).mono ?_; rintro e w0 ⟨rfl, hb⟩; have hS0 := keepSL k0 k1 k2 k3 k4 l0 l1 l2 l3 l4 none 0 [] HSt.out hb; have HS0 := Lib.hid hS0; have B := Lib.hid hS0.1; have K0 := hS0.2.1; have L0 := hS0.2.2.1; clear hb hS0) | (go_at_call 7; with_reducible refine (valid_is k0 k1 k2 k3 k4 _ hk gk _).mono ?_; rintro e w1 ⟨rfl, hb⟩; have hS1 := keepSL k0 k1 k2 k3 k4 l0 l1 l2 l3 l4 none 0 [] HS0.out hb; have HS1 := Lib.hid hS1; have L1 := hS1.2.2.1; replace B := Lib.hid hS1.1; clear hb hS1 K0 L0) | (go_at_call 7; with_reducible refine (valid_is l0 l1 l2 l3 l4 _ hl gl _).mono ?_; rintro e w2 ⟨rfl, hb⟩; have hS2 := keepSL k0 k1 k2 k3 k4 l0 l1 l2 l3 l4 none 0 [] HS1.out hb; replace B := Lib.hid hS2.1; clear hb hS2 L1)); go_ret; exact ⟨rfl, B.out⟩
  · go_enter Try.func3, Try.ntmps3; go_wp2_with (first | (go_at_call 6; refine (first_any _).mono ?_; rintro e w0 ⟨rfl, hb⟩; have hS0 := keepSL k0 k1 k2 k3 k4 l0 l1 l2 l3 l4 none 0 [] HSt.out hb; have HS0 := Lib.hid hS0; have B := Lib.hid hS0.1; have K0 := hS0.2.1; have L0 := hS0.2.2.1; clear hb hS0) | (go_at_call 7; with_reducible refine (valid_is k0 k1 k2 k3 k4 _ hk gk _).mono ?_; rintro e w1 ⟨rfl, hb⟩; have hS1 := keepSL k0 k1 k2 k3 k4 l0 l1 l2 l3 l4 none 0 [] HS0.out hb; have HS1 := Lib.hid hS1; have L1 := hS1.2.2.1; replace B := Lib.hid hS1.1; clear hb hS1 K0 L0) | (go_at_call 7; with_reducible refine (valid_is l0 l1 l2 l3 l4 _ hl gl _).mono ?_; rintro e w2 ⟨rfl, hb⟩; have hS2 := keepSL k0 k1 k2 k3 k4 l0 l1 l2 l3 l4 none 0 [] HS1.out hb; replace B := Lib.hid hS2.1; clear hb hS2 L1)); go_ret; exact ⟨rfl, B.out⟩
  · go_enter Try.func3, Try.ntmps3; go_wp2_with (first | (go_at_call 6; refine (first_any _).mono ?_; rintro e w0 ⟨rfl, hb⟩; have hS0 := keepSL k0 k1 k2 k3 k4 l0 l1 l2 l3 l4 none 0 [] HSt.out hb; have HS0 := Lib.hid hS0; have B := Lib.hid hS0.1; have K0 := hS0.2.1; have L0 := hS0.2.2.1; clear hb hS0) | (go_at_call 7; with_reducible refine (valid_is k0 k1 k2 k3 k4 _ hk gk _).mono ?_; rintro e w1 ⟨rfl, hb⟩; have hS1 := keepSL k0 k1 k2 k3 k4 l0 l1 l2 l3 l4 none 0 [] HS0.out hb; have HS1 := Lib.hid hS1; have L1 := hS1.2.2.1; replace B := Lib.hid hS1.1; clear hb hS1 K0 L0) | (go_at_call 7; with_reducible refine (valid_is l0 l1 l2 l3 l4 _ hl gl _).mono ?_; rintro e w2 ⟨rfl, hb⟩; have hS2 := keepSL k0 k1 k2 k3 k4 l0 l1 l2 l3 l4 none 0 [] HS1.out hb; replace B := Lib.hid hS2.1; clear hb hS2 L1)); go_ret; exact ⟨rfl, B.out⟩

theorem or_assoc_fin : ∀ k b : Fin 8, ∀ m : Fin 3, orI (orI (k.val : Int) (b.val : Int)) ((2 ^ m.val : Nat) : Int) = orI (k.val : Int) (orI (b.val : Int) ((2 ^ m.val : Nat) : Int)) := by decide +kernel
theorem or_zero_fin : ∀ k : Fin 8, orI (k.val : Int) 0 = (k.val : Int) := by decide +kernel
theorem and7_fin : ∀ k : Fin 8, andI (k.val : Int) 7 = (k.val : Int) := by decide +kernel
theorem lessOne_in8 (n : Int) (hn : In8 n) (x : Int) : In8 (lessOne n x) := by
  by_cases hx : x = 1 ∨ x = 2 ∨ x = 4
  · exact (lessOne_in n hn x (.inr hx)).1
  · have e : lessOne n x = n := if_neg hx
    rw [e]; exact hn
theorem lessOne_or (k b : Int) (hk : In8 k) (hb : In8 b) (x : Int) : lessOne (orI k b) x = orI k (lessOne b x) := by
  by_cases hx : x = 1 ∨ x = 2 ∨ x = 4
  · have e1 : lessOne (orI k b) x = orI (orI k b) x := if_pos hx
    have e2 : lessOne b x = orI b x := if_pos hx
    obtain ⟨k, rfl⟩ := hk.fin
    obtain ⟨b, rfl⟩ := hb.fin
    have hm : ∃ m : Fin 3, x = ((2 ^ m.val : Nat) : Int) := by rcases hx with rfl | rfl | rfl; exact ⟨0, rfl⟩; exact ⟨1, rfl⟩; exact ⟨2, rfl⟩
    obtain ⟨m, rfl⟩ := hm
    rw [e1, e2]
    exact or_assoc_fin k b m
  · have e1 : lessOne (orI k b) x = orI k b := if_neg hx
    have e2 : lessOne b x = b := if_neg hx
    rw [e1, e2]
theorem lessR_or (xs : List Int) : ∀ (k b : Int), In8 k → In8 b → lessR (orI k b) xs = orI k (lessR b xs) ∧ In8 (lessR b xs) := by
  induction xs with
  | nil => intro k b hk hb; exact ⟨rfl, hb⟩
  | cons x r ih =>
    intro k b hk hb
    have e : lessR (orI k b) (x :: r) = lessR (lessOne (orI k b) x) r := rfl
    have e' : lessR b (x :: r) = lessR (lessOne b x) r := rfl
    rw [e, e', lessOne_or k b hk hb x]
    exact ih k (lessOne b x) hk (lessOne_in8 b hb x)
theorem less_bits (k : Int) (hk : In8 k) (xs : List Int) : orI k (andI (lessR 0 xs) 7) = lessR k xs := by
  have h0 : In8 0 := ⟨by omega, by omega⟩
  obtain ⟨h1, h2⟩ := lessR_or xs k 0 hk h0
  obtain ⟨b, hb⟩ := h2.fin
  rw [hb, and7_fin b, ← hb, ← h1]
  obtain ⟨k, rfl⟩ := hk.fin
  rw [or_zero_fin k]

theorem says_core (k0 k1 k2 k3 k4 : Int) (l0 l1 l2 l3 l4 : Int) (r0 r1 r2 r3 r4 : Int) (rt : Int) (s : Bool) (a : Option Addr) (len cap : Nat) (xs : List Int) (w : World) (hx : RowI w a len xs) (hl8 : len ≤ 8)
    (gk : k4 ≤ 4294967295) (gl : l4 ≤ 4294967295) (hk : codeOf k0 k1 k2 k3 k4 = 0) (hl : codeOf l0 l1 l2 l3 l4 = 0) (hr0 : 0 ≤ rt) (hr7 : rt ≤ 7)
    (hW : Hid (Wk [k0, k1, k2, k3, k4] [r0, r1, r2, r3, r4]))
    (cS : Hid (∀ W : World, Calls Try.prog 15 #[(Value.agg #[.int .i64 k0, .int .i64 k1, .int .i64 k2, .int .i64 k3, .int .u32 k4])] W fun e w' => e = .returned (.bool s) ∧ Below W.heap.size W w'))
    (hs : sameB r0 r1 r2 r3 r4 k0 k1 k2 k3 k4 = s) :
    Calls Try.prog 3 #[(Value.agg #[.int .i64 k0, .int .i64 k1, .int .i64 k2, .int .i64 k3, .int .u32 k4]), (Value.agg #[.int .i64 l0, .int .i64 l1, .int .i64 l2, .int .i64 l3, .int .u32 l4]), .int .i64 rt, .slice a len cap] w fun e w' => e = .returned (.bool true) ∧ Below w.heap.size w w' := by
  have h8 := rights_in _ _ _ _ _ hk
  have cS' : Hid (∀ W : World, Calls Try.prog 16 #[(Value.agg #[.int .i64 k0, .int .i64 k1, .int .i64 k2, .int .i64 k3, .int .u32 k4])] W fun e w' => e = .returned (.bool s) ∧ Below W.heap.size W w') := Lib.hid fun W => rsensory_any k0 k1 k2 k3 k4 r0 r1 r2 r3 r4 s h8 hW (Lib.hid hs) W
  have cW : Hid (∀ W : World, Calls Try.prog 9 #[(Value.agg #[.int .i64 k0, .int .i64 k1, .int .i64 k2, .int .i64 k3, .int .u32 k4])] W fun e w' => e = .returned (Value.agg #[.int .i64 r0, .int .i64 r1, .int .i64 r2, .int .i64 r3, .int .u32 r4]) ∧ Below W.heap.size W w') := Lib.hid fun W => weaken_any k0 k1 k2 k3 k4 r0 r1 r2 r3 r4 hW W
  have cW' : Hid (∀ W : World, Calls Try.prog 10 #[(Value.agg #[.int .i64 k0, .int .i64 k1, .int .i64 k2, .int .i64 k3, .int .u32 k4])] W fun e w' => e = .returned (Value.agg #[.int .i64 r0, .int .i64 r1, .int .i64 r2, .int .i64 r3, .int .u32 r4]) ∧ Below W.heap.size W w') := Lib.hid fun W => rweaken_any k0 k1 k2 k3 k4 r0 r1 r2 r3 r4 h8 hW W
  have cV : Hid (∀ W : World, Calls Try.prog 19 #[(Value.agg #[.int .i64 k0, .int .i64 k1, .int .i64 k2, .int .i64 k3, .int .u32 k4]), (Value.agg #[.int .i64 l0, .int .i64 l1, .int .i64 l2, .int .i64 l3, .int .u32 l4])] W fun e w' => e = .returned (.bool (withinB k0 k1 k2 k3 k4 l0 l1 l2 l3 l4)) ∧ Below W.heap.size W w') := Lib.hid fun W => within_any k0 k1 k2 k3 k4 l0 l1 l2 l3 l4 W
  have cV' : Hid (∀ W : World, Calls Try.prog 20 #[(Value.agg #[.int .i64 k0, .int .i64 k1, .int .i64 k2, .int .i64 k3, .int .u32 k4]), (Value.agg #[.int .i64 l0, .int .i64 l1, .int .i64 l2, .int .i64 l3, .int .u32 l4])] W fun e w' => e = .returned (.bool (withinB k0 k1 k2 k3 k4 l0 l1 l2 l3 l4)) ∧ Below W.heap.size W w') := Lib.hid fun W => rwithin_any k0 k1 k2 k3 k4 l0 l1 l2 l3 l4 W
  have hL' : ∀ W : World, Calls Try.prog 12 #[(Value.agg #[.int .i64 k0, .int .i64 k1, .int .i64 k2, .int .i64 k3, .int .u32 k4]), .int .i64 (lessR 0 xs)] W fun e w' => e = .returned (.agg #[.int .i64 k0, .int .i64 k1, .int .i64 k2, .int .i64 (lessK k0 k3 xs), .int .u32 k4]) ∧ Below W.heap.size W w' := fun W => by
    by_cases hm : k0 = 2 ∨ k0 = 3
    · have e : lessK k0 k3 xs = lessR k3 xs := if_pos hm
      rw [e]; exact rless_mem k0 k1 k2 k3 k4 _ _ hm (Lib.hid (less_bits k3 h8 xs)) W
    · have e : lessK k0 k3 xs = k3 := if_neg hm
      rw [e]; exact rless_not k0 k1 k2 k3 k4 _ (by omega) (by omega) W
  have hU : ∃ u : Bool, (∀ W : World, Calls Try.prog 17 #[(Value.agg #[.int .i64 k0, .int .i64 k1, .int .i64 k2, .int .i64 k3, .int .u32 k4])] W fun e w' => e = .returned (.bool u) ∧ Below W.heap.size W w') ∧ (∀ W : World, Calls Try.prog 18 #[(Value.agg #[.int .i64 k0, .int .i64 k1, .int .i64 k2, .int .i64 k3, .int .u32 k4])] W fun e w' => e = .returned (.bool u) ∧ Below W.heap.size W w') := by
    by_cases hm : k0 = 2 ∨ k0 = 3
    · exact ⟨_, fun W => writes_mem k0 k1 k2 k3 k4 hm W, fun W => rwrites_mem k0 k1 k2 k3 k4 hm W⟩
    · exact ⟨_, fun W => writes_no k0 k1 k2 k3 k4 (by omega) (by omega) W, fun W => rwrites_no k0 k1 k2 k3 k4 (by omega) (by omega) W⟩
  obtain ⟨u, hU1, hU2⟩ := hU
  cases ht : (bits BinOp.and IntKind.i64 rt 4 == 0)
  · exact says_walk k0 k1 k2 k3 k4 l0 l1 l2 l3 l4 r0 r1 r2 r3 r4 r0 r1 r2 r3 r4 rt _ _ s u _ a len cap xs w hx hl8 gk gl (Lib.hid hk) (Lib.hid hl) hr0 hr7 (Lib.hid rfl) (Lib.hid rfl) cW cW' (Lib.hid hL')
      (Lib.hid fun W => through_weak rt k0 k1 k2 k3 k4 r0 r1 r2 r3 r4 ht hW W) (Lib.hid fun W => rthrough_weak rt k0 k1 k2 k3 k4 r0 r1 r2 r3 r4 h8 ht hW W) cS cS' (Lib.hid hU1) (Lib.hid hU2) cV cV'
  · exact says_walk k0 k1 k2 k3 k4 l0 l1 l2 l3 l4 r0 r1 r2 r3 r4 k0 k1 k2 k3 k4 rt _ _ s u _ a len cap xs w hx hl8 gk gl (Lib.hid hk) (Lib.hid hl) hr0 hr7 (Lib.hid rfl) (Lib.hid rfl) cW cW' (Lib.hid hL')
      (Lib.hid fun W => through_same rt k0 k1 k2 k3 k4 ht W) (Lib.hid fun W => rthrough_same rt k0 k1 k2 k3 k4 ht W) cS cS' (Lib.hid hU1) (Lib.hid hU2) cV cV'
theorem rowI_of {w : World} {a : Option Addr} {len cap : Nat} {z : List Int} (h : IsRow .i64 w a len cap z) : RowI w a len (z.take len) ∧ len ≤ 9223372036854775807 := by
  rcases h with ⟨rfl, rfl, rfl, rfl⟩ | ⟨x, rfl, hl, hm, hz, hcell, hwz⟩
  · exact ⟨⟨rfl, .inl rfl⟩, by omega⟩
  · refine ⟨⟨by simp; omega, ?_⟩, by unfold maxLen at hm; omega⟩
    by_cases h0 : len = 0
    · exact .inl h0
    · obtain ⟨b, off, spot⟩ := x
      have hspot : spot = none := by simpa [Addr.add] using World.cell?_spot (hcell 0 (by omega))
      subst hspot
      have hat : ∀ i, i < len → w.cell? ⟨b, off + i, none⟩ = some (.int .i64 ((z.take len).getD i 0)) := fun i hi => by
        have hg : (z.take len).getD i 0 = z.getD i 0 := by simp [List.getD, hi]
        rw [hg]
        have := hcell i (by omega)
        by_cases hi0 : i = 0
        · subst hi0; simpa [Addr.add] using this
        · simpa [Addr.add, hi0] using this
      exact .inr ⟨b, off, rfl, World.block_lt_of_cell? w _ (hat 0 (by omega)), hat⟩
theorem walk_RightSays (x0_0 : Int) (x0_1 : Int) (x0_2 : Int) (x0_3 : Int) (x0_4 : Int) (x1_0 : Int) (x1_1 : Int) (x1_2 : Int) (x1_3 : Int) (x1_4 : Int) (a2 : Int) (a3 : Option Addr) (len3 cap3 : Nat) (z3 : List Int) (w : World) (wx0_0 : (Lit.int .i64 x0_0).wf = true) (wx0_1 : (Lit.int .i64 x0_1).wf = true) (wx0_2 : (Lit.int .i64 x0_2).wf = true) (wx0_3 : (Lit.int .i64 x0_3).wf = true) (wx0_4 : (Lit.int .u32 x0_4).wf = true) (wx1_0 : (Lit.int .i64 x1_0).wf = true) (wx1_1 : (Lit.int .i64 x1_1).wf = true) (wx1_2 : (Lit.int .i64 x1_2).wf = true) (wx1_3 : (Lit.int .i64 x1_3).wf = true) (wx1_4 : (Lit.int .u32 x1_4).wf = true) (w2 : (Lit.int .i64 a2).wf = true) (w3 : IsRow .i64 w a3 len3 cap3 z3) :
    Calls Try.prog 3 #[.agg #[.int .i64 x0_0, .int .i64 x0_1, .int .i64 x0_2, .int .i64 x0_3, .int .u32 x0_4], .agg #[.int .i64 x1_0, .int .i64 x1_1, .int .i64 x1_2, .int .i64 x1_3, .int .u32 x1_4], .int .i64 a2, .slice a3 len3 cap3] w fun e w' => e = .returned (.bool true) ∧ Below w.heap.size w w' := by
  have gk := fits32 wx0_4
  have gl := fits32 wx1_4
  obtain ⟨hrow, hm⟩ := rowI_of w3
  by_cases he : 8 < len3 ∨ a2 < 0 ∨ 7 < a2 ∨ codeOf x0_0 x0_1 x0_2 x0_3 x0_4 = 102 ∨ codeOf x0_0 x0_1 x0_2 x0_3 x0_4 = 103 ∨ (codeOf x0_0 x0_1 x0_2 x0_3 x0_4 = 0 ∧ (codeOf x1_0 x1_1 x1_2 x1_3 x1_4 = 102 ∨ codeOf x1_0 x1_1 x1_2 x1_3 x1_4 = 103))
  · exact says_early _ _ _ _ _ _ _ _ _ _ a2 _ _ a3 len3 cap3 w hm gk gl (Lib.hid rfl) (Lib.hid rfl) he
  have hk : codeOf x0_0 x0_1 x0_2 x0_3 x0_4 = 0 := by have := code_cases x0_0 x0_1 x0_2 x0_3 x0_4; omega
  have hl : codeOf x1_0 x1_1 x1_2 x1_3 x1_4 = 0 := by have := code_cases x1_0 x1_1 x1_2 x1_3 x1_4; omega
  have h8 := rights_in _ _ _ _ _ hk
  by_cases hmem : x0_0 = 2 ∨ x0_0 = 3
  · have hW : Wk [x0_0, x0_1, x0_2, x0_3, x0_4] [x0_0, x0_1, x0_2, bits BinOp.or IntKind.i64 x0_3 5, x0_4] := .inl ⟨hmem, rfl⟩
    by_cases h3 : bits BinOp.or IntKind.i64 x0_3 5 = x0_3
    · rw [h3] at hW
      exact says_core x0_0 x0_1 x0_2 x0_3 x0_4 x1_0 x1_1 x1_2 x1_3 x1_4 x0_0 x0_1 x0_2 x0_3 x0_4 a2 true a3 len3 cap3 _ w hrow (by omega) gk gl hk hl (by omega) (by omega) (Lib.hid hW) (Lib.hid fun W => sensory_yes x0_0 x0_1 x0_2 x0_3 x0_4 (Lib.hid hW) W) (by simp [sameB])
    · exact says_core x0_0 x0_1 x0_2 x0_3 x0_4 x1_0 x1_1 x1_2 x1_3 x1_4 x0_0 x0_1 x0_2 _ x0_4 a2 false a3 len3 cap3 _ w hrow (by omega) gk gl hk hl (by omega) (by omega) (Lib.hid hW) (Lib.hid fun W => sensory_no x0_0 x0_1 x0_2 x0_3 x0_4 _ _ _ _ _ (Lib.hid hW) (.inr ⟨rfl, rfl, rfl, by simp; omega⟩) W) (by simp [sameB, h3])
  · by_cases hs : x0_0 = 0 ∨ x0_0 = 1 ∨ x0_0 = 12 ∨ x0_0 = 14
    · have hW : Wk [x0_0, x0_1, x0_2, x0_3, x0_4] [x0_0, x0_1, x0_2, x0_3, x0_4] := .inr (.inl ⟨hs, rfl⟩)
      exact says_core x0_0 x0_1 x0_2 x0_3 x0_4 x1_0 x1_1 x1_2 x1_3 x1_4 x0_0 x0_1 x0_2 x0_3 x0_4 a2 true a3 len3 cap3 _ w hrow (by omega) gk gl hk hl (by omega) (by omega) (Lib.hid hW) (Lib.hid fun W => sensory_yes x0_0 x0_1 x0_2 x0_3 x0_4 (Lib.hid hW) W) (by simp [sameB])
    · have hW : Wk [x0_0, x0_1, x0_2, x0_3, x0_4] [0, 0, 0, 0, 0] := .inr (.inr ⟨by simp; omega, rfl⟩)
      have hn : ¬ x0_0 = 0 := by omega
      have hn' : ¬ 0 = x0_0 := by omega
      exact says_core x0_0 x0_1 x0_2 x0_3 x0_4 x1_0 x1_1 x1_2 x1_3 x1_4 0 0 0 0 0 a2 false a3 len3 cap3 _ w hrow (by omega) gk gl hk hl (by omega) (by omega) (Lib.hid hW) (Lib.hid fun W => sensory_no x0_0 x0_1 x0_2 x0_3 x0_4 _ _ _ _ _ (Lib.hid hW) (.inl (by simpa using hn)) W) (by simp [sameB, hn'])
end Go.Proofs.Ytggnaalcdekccaa
