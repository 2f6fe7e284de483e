/-
  Chapter 15: first; AsmWrong.
-/
import Derived.Test.YtaekccgcnlepaaaDoorAo
namespace Go.Proofs.YtaekccgcnlepaaaDoor
open Go.ChangeShapes Go.WideShapes Go.ChangeAt Go.RowKit Go.Maps
set_option linter.unusedVariables false
set_option linter.unusedSimpArgs false
def fT : List ByteArray := [⟨#[97, 58]⟩, ⟨#[106, 109, 112, 32, 97]⟩]
def yT : List ByteArray := [⟨#[121, 105, 101, 108, 100]⟩, ⟨#[119, 111, 114, 100, 32, 49, 120]⟩]
def wordT : List ByteArray := [⟨#[]⟩, ⟨#[108, 105, 105, 32, 114, 49, 32, 53]⟩, ⟨#[108, 105, 32, 114, 49]⟩, ⟨#[108, 105, 32, 114, 49, 32, 53, 32, 54]⟩, ⟨#[97, 108, 117, 32, 112, 108, 117, 115, 32, 114, 49, 32, 114, 50, 32, 114, 51]⟩, ⟨#[97, 108, 117, 32, 97, 100, 100, 32, 114, 49, 32, 114, 50]⟩, ⟨#[105, 110, 118, 32, 99, 97, 108, 108, 115, 32, 107, 49, 32, 107, 50]⟩, ⟨#[121, 105, 101, 108, 100, 32, 49]⟩, ⟨#[119, 111, 114, 100, 32, 49, 32, 50]⟩, ⟨#[97, 32, 98, 58]⟩]
def numT : List ByteArray := [⟨#[108, 105, 32, 114, 49, 32, 120]⟩, ⟨#[108, 105, 32, 114, 49, 32, 48, 53]⟩, ⟨#[108, 105, 32, 114, 49, 32, 43, 53]⟩, ⟨#[108, 105, 32, 49, 32, 53]⟩, ⟨#[108, 105, 32, 107, 49, 32, 53]⟩, ⟨#[107, 109, 111, 118, 101, 32, 107, 49, 32, 114, 50]⟩, ⟨#[106, 122, 32, 114, 49, 32, 49, 50, 51, 52, 53, 54, 55, 56, 57, 48]⟩, ⟨#[108, 111, 97, 100, 32, 114, 49, 32, 114, 50, 32, 45, 49]⟩, ⟨#[108, 105, 32, 114, 32, 53]⟩, ⟨#[107, 110, 117, 109, 32, 107, 49, 32, 114, 50, 120]⟩]
def rngT : List ByteArray := [⟨#[108, 105, 32, 114, 56, 32, 53]⟩, ⟨#[108, 105, 32, 114, 49, 32, 52, 48, 57, 54]⟩, ⟨#[107, 109, 111, 118, 101, 32, 107, 49, 54, 32, 107, 48]⟩, ⟨#[97, 108, 117, 32, 97, 100, 100, 32, 114, 49, 32, 114, 57, 32, 114, 50]⟩, ⟨#[106, 109, 112, 32, 53, 48, 48, 48]⟩, ⟨#[105, 110, 118, 32, 99, 97, 108, 108, 32, 107, 49, 32, 107, 49, 54]⟩, ⟨#[115, 97, 118, 101, 32, 114, 48, 32, 114, 56, 32, 49]⟩]
theorem fT_text : textV fT = ([67108864], none) := by decide +kernel
theorem yT_text : textV yT = ([], some (1, 11)) := by decide +kernel
theorem wordT_bad : ∀ r : Fin 10, (lineV (wordT.getD r.val ⟨#[]⟩)).2 = some 10 := by decide +kernel
theorem numT_bad : ∀ r : Fin 10, (lineV (numT.getD r.val ⟨#[]⟩)).2 = some 11 := by decide +kernel
theorem rngT_bad : ∀ r : Fin 7, (lineV (rngT.getD r.val ⟨#[]⟩)).2 = some 2 := by decide +kernel
theorem wordT_sz : ∀ r : Fin 10, (wordT.getD r.val ⟨#[]⟩).size ≤ 900 := by decide +kernel
theorem numT_sz : ∀ r : Fin 10, (numT.getD r.val ⟨#[]⟩).size ≤ 900 := by decide +kernel
theorem rngT_sz : ∀ r : Fin 7, (rngT.getD r.val ⟨#[]⟩).size ≤ 900 := by decide +kernel
theorem two_sz (a b : ByteArray) (ha : a.size ≤ 900) (hb : b.size ≤ 900) (i : Nat) : ([a, b].getD i ⟨#[]⟩).size ≤ 900 := by
  match i with
  | 0 => exact ha
  | 1 => exact hb
  | n + 2 => exact Nat.zero_le _
theorem ls_two (w : World) (a b : ByteArray) (t : TypeId) : LsAt (w.alloc (.cells #[.string a, .string b] t)) (some ⟨w.heap.size, 0, none⟩) [a, b] := fun i hi => by
  refine ⟨_, rfl, by simp, ?_⟩
  match i, hi with
  | 0, _ | 1, _ => simp [Addr.add, List.getD]
set_option maxRecDepth 100000 in
theorem afirst_is {A : Nat → Addr} (w : World) (hA : AsmAt A w) : Calls Tryd.prog 7 #[] w fun e w' => e = .returned (.bool true) ∧ Below w.heap.size w w' := by
  have hb0 : Below w.heap.size w (w.alloc (.cells #[.string ⟨#[97, 58]⟩, .string ⟨#[106, 109, 112, 32, 97]⟩] 9)) := (Below.refl _ _).alloc (Nat.le_refl _) _
  have HT := Lib.hid (text_is (some ⟨w.heap.size, 0, none⟩) 2 2 fT (Lib.hid rfl) (by decide) (Lib.hid (two_sz _ _ (by decide) (by decide))) _ (hA.below hb0) (ls_two w _ _ _))
  have HB0 := Lib.hid hb0
  rw [fT_text] at HT
  clear hA hb0
  go_enter Tryd.func7, Tryd.ntmps7
  go_wp2_with (first
    | (go_at_call 12; (refine HT.out.mono ?_); rintro e w1 ⟨⟨ad, n, cp, ve, rfl, hn, -, hve⟩, hb⟩; obtain rfl : ve = .nilIface := (by rcases hve with h | ⟨_, _, _, h, _⟩; exact h.2; cases h); obtain rfl : n = 1 := hn.symm; have HB := Lib.hid (HB0.out.trans (hb.mono HB0.out.size)); clear hn hve hb))
  go_ret
  exact ⟨rfl, HB.out⟩
theorem ret_i64w {a b : Int} (h : a = b) : Ending.returned (.int .i64 a) = .returned (.int .i64 b) := by rw [h]
theorem number_is (n m r : Int) (hm0 : 0 < m) (hm : m ≤ 1000) (h1 : -9223372036854775808 ≤ n) (h2 : n ≤ 9223372036854775807) (hr : Hid (n % m = r)) (w : World) :
    Calls Tryd.prog 15 #[.int .i64 n, .int .i64 m] w fun e w' => e = .returned (.int .i64 r) ∧ w = w' := by
  have e0 := Int.emod_nonneg n (show m ≠ 0 by omega)
  have e1 := Int.emod_lt_of_pos n hm0
  by_cases hn : 0 ≤ n
  · have hd : decide (n % m < 0) = false := decide_eq_false (by omega)
    have hm1 : 1 ≤ m := by omega
    go_enter Tryd.func15, Tryd.ntmps15
    go_wp2
    go_ret
    exact ⟨ret_i64w hr.out, rfl⟩
  · have ht := Int.tmod_eq_emod (a := n) (b := m)
    have hm1 : 1 ≤ m := by omega
    by_cases hdv : m ∣ n
    · rw [if_pos (Or.inr hdv)] at ht
      have hz := Int.emod_eq_zero_of_dvd hdv
      have ht2 : n.tmod m = 0 := by omega
      have hr0 : Hid (0 = r) := Lib.hid (by rw [← hr.out, hz])
      clear ht hz hdv e0 e1
      go_enter Tryd.func15, Tryd.ntmps15
      go_wp2
      go_ret
      exact ⟨ret_i64w hr0.out, rfl⟩
    · rw [if_neg (by omega)] at ht
      have hnz : n % m ≠ 0 := fun e => hdv (Int.dvd_of_emod_eq_zero e)
      obtain ⟨t, ht2⟩ : ∃ t, n.tmod m = t := ⟨_, rfl⟩
      have hab : (m.natAbs : Int) = m := by omega
      have hlt : t < 0 := by omega
      have hge : -1000 ≤ t := by omega
      have hr0 : Hid (t + m = r) := Lib.hid (by rw [← hr.out]; omega)
      have hd : decide (t < 0) = true := decide_eq_true hlt
      clear ht hdv e0 e1 hnz hab
      go_enter Tryd.func15, Tryd.ntmps15
      go_wp2
      go_ret
      exact ⟨ret_i64w hr0.out, rfl⟩
theorem number_nat (n m : Int) (M : Nat) (hm : m = (M : Int)) (hm0 : 0 < M) (hm1 : M ≤ 1000) (h1 : -9223372036854775808 ≤ n) (h2 : n ≤ 9223372036854775807) : ∃ r : Nat, r < M ∧ ∀ w, Calls Tryd.prog 15 #[.int .i64 n, .int .i64 m] w fun e w' => e = .returned (.int .i64 r) ∧ w = w' := by
  have e0 := Int.emod_nonneg n (show m ≠ 0 by omega)
  have e1 := Int.emod_lt_of_pos n (show 0 < m by omega)
  refine ⟨(n % m).toNat, by omega, fun w => ?_⟩
  exact number_is n m _ (by omega) (by omega) h1 h2 (Lib.hid (by omega)) w
theorem tab_at (w : World) (t : TypeId) (l : List ByteArray) (r : Nat) (h : r < l.length) : (w.alloc (.cells (l.map Value.string).toArray t)).cell? ⟨w.heap.size, r, none⟩ = some (.string (l.getD r ⟨#[]⟩)) := by
  simp [List.getD, h]
theorem yerr {w1 : World} {ve : Value} (h : ((([] : List Int), some ((1 : Nat), (11 : Nat))).2 = none ∧ ve = .nilIface) ∨ ∃ k er p, (([] : List Int), some ((1 : Nat), (11 : Nat))).2 = some (k, er) ∧ er < 12 ∧ ve = (Value.iface 70 (.pointer (some ⟨p, 0, none⟩))) ∧ FaultIs ve (101 + (er : Int)) (k : Int) true w1) : FaultIs ve 112 1 true w1 := by
  rcases h with ⟨h, _⟩ | ⟨k, er, p, h, _, _, hF⟩
  · cases h
  · simp only [Option.some.injEq, Prod.mk.injEq] at h
    obtain ⟨rfl, rfl⟩ := h
    exact hF
set_option maxRecDepth 100000 in
set_option maxHeartbeats 4000000 in
theorem wrong_any {A : Nat → Addr} (k : Int) (h1 : -9223372036854775808 ≤ k) (h2 : k ≤ 9223372036854775807) (w : World) (hA : AsmAt A w) :
    Calls Tryd.prog 6 #[.int .i64 k] w fun e w' => e = .returned (.bool true) ∧ Below w.heap.size w w' := by
  have HA := Lib.hid hA
  obtain ⟨r, hr, CR⟩ := number_nat k 10 10 rfl (by decide) (by decide) h1 h2
  obtain ⟨q, hq, CQ⟩ := number_nat k 7 7 rfl (by decide) (by decide) h1 h2
  have CR' := Lib.hid CR
  have CQ' := Lib.hid CQ
  have HF := Lib.hid (afirst_is w hA)
  clear hA CR CQ
  go_enter Tryd.func6, Tryd.ntmps6
  go_upto_region 5 with (first
    | (go_at_call 7; (with_reducible refine HF.out.mono ?_); rintro e w1 ⟨rfl, hb⟩; have HB1 := Lib.hid hb; clear hb))
  generalize hA2 : World.alloc w1 _ = w2
  obtain ⟨b1, hb1⟩ : ∃ b, b = w1.heap.size := ⟨_, rfl⟩
  have H2 : Hid (Below w1.heap.size w1 w2 ∧ b1 < w2.heap.size ∧ ∀ i, i < 10 → w2.cell? ⟨b1, i, none⟩ = some (.string (wordT.getD i ⟨#[]⟩))) := Lib.hid (by
    rw [← hA2, hb1]
    exact ⟨(Below.refl _ _).alloc (Nat.le_refl _) _, by simp, fun i hi => tab_at w1 9 wordT i hi⟩)
  rw [← hb1]
  clear hA2 hb1
  go_upto_region 6 with fail
  generalize hA3 : World.alloc w2 _ = w3
  obtain ⟨b2, hb2⟩ : ∃ b, b = w2.heap.size := ⟨_, rfl⟩
  have H3 : Hid (Below w2.heap.size w2 w3 ∧ b2 < w3.heap.size ∧ ∀ i, i < 10 → w3.cell? ⟨b2, i, none⟩ = some (.string (numT.getD i ⟨#[]⟩))) := Lib.hid (by
    rw [← hA3, hb2]
    exact ⟨(Below.refl _ _).alloc (Nat.le_refl _) _, by simp, fun i hi => tab_at w2 9 numT i hi⟩)
  rw [← hb2]
  clear hA3 hb2
  go_upto_region 7 with fail
  generalize hA4 : World.alloc w3 _ = w4
  obtain ⟨b3, hb3⟩ : ∃ b, b = w3.heap.size := ⟨_, rfl⟩
  have H4 : Hid (Below w3.heap.size w3 w4 ∧ b3 < w4.heap.size ∧ ∀ i, i < 7 → w4.cell? ⟨b3, i, none⟩ = some (.string (rngT.getD i ⟨#[]⟩))) := Lib.hid (by
    rw [← hA4, hb3]
    exact ⟨(Below.refl _ _).alloc (Nat.le_refl _) _, by simp, fun i hi => tab_at w3 9 rngT i hi⟩)
  rw [← hb3]
  clear hA4 hb3
  have HB4 : Hid (Below w.heap.size w w4) := Lib.hid (((HB1.out.trans (H2.out.1.mono HB1.out.size)).trans (H3.out.1.mono (Nat.le_trans HB1.out.size H2.out.1.size))).trans (H4.out.1.mono (Nat.le_trans HB1.out.size (Nat.le_trans H2.out.1.size H3.out.1.size))))
  have H24 : Hid (Below w2.heap.size w2 w4) := Lib.hid (H3.out.1.trans (H4.out.1.mono H3.out.1.size))
  obtain ⟨s1, hs1⟩ : ∃ s1, wordT.getD r ⟨#[]⟩ = s1 := ⟨_, rfl⟩
  obtain ⟨s2, hs2⟩ : ∃ s2, numT.getD r ⟨#[]⟩ = s2 := ⟨_, rfl⟩
  obtain ⟨s3, hs3⟩ : ∃ s3, rngT.getD q ⟨#[]⟩ = s3 := ⟨_, rfl⟩
  have hw1 := wordT_bad ⟨r, hr⟩
  have hw2 := numT_bad ⟨r, hr⟩
  have hw3 := rngT_bad ⟨q, hq⟩
  have hz1 := wordT_sz ⟨r, hr⟩
  have hz2 := numT_sz ⟨r, hr⟩
  have hz3 := rngT_sz ⟨q, hq⟩
  simp only at hw1 hw2 hw3 hz1 hz2 hz3
  rw [hs1] at hw1 hz1
  rw [hs2] at hw2 hz2
  rw [hs3] at hw3 hz3
  obtain ⟨⟨⟨a0, a1, a2, a3, a4⟩, o1⟩, hx1⟩ : ∃ y, lineV s1 = y := ⟨_, rfl⟩
  obtain ⟨⟨⟨d0, d1, d2, d3, d4⟩, o2⟩, hx2⟩ : ∃ y, lineV s2 = y := ⟨_, rfl⟩
  obtain ⟨⟨⟨g0, g1, g2, g3, g4⟩, o3⟩, hx3⟩ : ∃ y, lineV s3 = y := ⟨_, rfl⟩
  rw [hx1] at hw1
  rw [hx2] at hw2
  rw [hx3] at hw3
  simp only at hw1 hw2 hw3
  subst hw1 hw2 hw3
  have L1 : Hid (∀ W, AsmAt A W → Calls Tryd.prog 8 #[.string s1] W fun e w' => e = .returned (.tuple #[.agg #[.int .i64 a0, .int .i64 a1, .int .i64 a2, .int .i64 a3, .int .i64 a4], errC (sA A 10)]) ∧ Below W.heap.size W w') := Lib.hid (fun W h => line_is s1 hz1 _ (Lib.hid hx1) W h)
  have L2 : Hid (∀ W, AsmAt A W → Calls Tryd.prog 8 #[.string s2] W fun e w' => e = .returned (.tuple #[.agg #[.int .i64 d0, .int .i64 d1, .int .i64 d2, .int .i64 d3, .int .i64 d4], errC (sA A 11)]) ∧ Below W.heap.size W w') := Lib.hid (fun W h => line_is s2 hz2 _ (Lib.hid hx2) W h)
  have L3 : Hid (∀ W, AsmAt A W → Calls Tryd.prog 8 #[.string s3] W fun e w' => e = .returned (.tuple #[.agg #[.int .i64 g0, .int .i64 g1, .int .i64 g2, .int .i64 g3, .int .i64 g4], errC (sA A 2)]) ∧ Below W.heap.size W w') := Lib.hid (fun W h => line_is s3 hz3 _ (Lib.hid hx3) W h)
  have c1 : w4.cell? ⟨b1, r, none⟩ = some (.string s1) := by
    rw [← hs1]
    exact (H24.out.cell (p := ⟨b1, r, none⟩) H2.out.2.1).trans (H2.out.2.2 r hr)
  have C2 : Hid (∀ W, Below w4.heap.size w4 W → W.cell? ⟨b2, r, none⟩ = some (.string s2) ∧ b2 < W.heap.size) := Lib.hid (fun W h => by
    rw [← hs2]
    have hb := H4.out.1.trans (h.mono H4.out.1.size)
    exact ⟨(hb.cell (p := ⟨b2, r, none⟩) H3.out.2.1).trans (H3.out.2.2 r hr), Nat.lt_of_lt_of_le H3.out.2.1 hb.size⟩)
  have C3 : Hid (∀ W, Below w4.heap.size w4 W → W.cell? ⟨b3, q, none⟩ = some (.string s3) ∧ b3 < W.heap.size) := Lib.hid (fun W h => by
    rw [← hs3]
    exact ⟨(h.cell (p := ⟨b3, q, none⟩) H4.out.2.1).trans (H4.out.2.2 q hq), Nat.lt_of_lt_of_le H4.out.2.1 h.size⟩)
  have r0 : (0 : Int) ≤ (r : Int) := by omega
  have r1 : (r : Int) < 10 := by omega
  have q0 : (0 : Int) ≤ (q : Int) := by omega
  have q1 : (q : Int) < 7 := by omega
  clear hs1 hs2 hs3 hx1 hx2 hx3 hz1 hz2 hz3
  go_upto_region 8 with (first
    | (go_at_call 15; (with_reducible refine (CR'.out _).mono ?_); rintro e w9 ⟨rfl, rfl⟩)
    | (go_at_call 8; (with_reducible refine (L1.out _ (HA.out.below HB4.out)).mono ?_); rintro e w5 ⟨rfl, hb⟩; have HB5 := Lib.hid hb; clear hb c1))
  generalize hA5 : World.alloc w5 _ = w6
  have HB6 : Hid (Below w4.heap.size w4 w6) := Lib.hid (by rw [← hA5]; exact HB5.out.alloc HB5.out.size _)
  clear hA5
  obtain ⟨c2, l2⟩ := C2.out _ HB6.out
  go_upto_region 9 with (first
    | (go_at_call 15; (with_reducible refine (CR'.out _).mono ?_); rintro e w9 ⟨rfl, rfl⟩)
    | (go_at_call 8; (with_reducible refine (L2.out _ (HA.out.below (HB4.out.trans (HB6.out.mono HB4.out.size)))).mono ?_); rintro e w7 ⟨rfl, hb⟩; have HB7 := Lib.hid (HB6.out.trans (hb.mono HB6.out.size)); clear hb c2 l2))
  generalize hA7 : World.alloc w7 _ = w8
  have HB8 : Hid (Below w4.heap.size w4 w8) := Lib.hid (by rw [← hA7]; exact HB7.out.alloc HB7.out.size _)
  clear hA7
  obtain ⟨c3, l3⟩ := C3.out _ HB8.out
  go_upto_region 10 with (first
    | (go_at_call 15; (with_reducible refine (CQ'.out _).mono ?_); rintro e w9 ⟨rfl, rfl⟩)
    | (go_at_call 8; (with_reducible refine (L3.out _ (HA.out.below (HB4.out.trans (HB8.out.mono HB4.out.size)))).mono ?_); rintro e w9 ⟨rfl, hb⟩; have HB9 := Lib.hid (HB8.out.trans (hb.mono HB8.out.size)); clear hb c3 l3))
  generalize hA9 : World.alloc w9 _ = w10
  have HB10 : Hid (Below w.heap.size w w10) := Lib.hid (by rw [← hA9]; exact HB4.out.trans ((HB9.out.alloc HB9.out.size _).mono HB4.out.size))
  clear hA9
  have HY : Hid (Below w.heap.size w (w10.alloc (.cells #[.string ⟨#[121, 105, 101, 108, 100]⟩, .string ⟨#[119, 111, 114, 100, 32, 49, 120]⟩] 9))) := Lib.hid (HB10.out.alloc HB10.out.size _)
  have HT := Lib.hid (text_is (some ⟨w10.heap.size, 0, none⟩) 2 2 yT (Lib.hid rfl) (by decide) (Lib.hid (two_sz _ _ (by decide) (by decide))) _ (HA.out.below HY.out) (ls_two w10 _ _ _))
  rw [yT_text] at HT
  go_wp2_with (first
    | (go_at_call 12; (refine HT.out.mono ?_); rintro e w11 ⟨⟨ad, n, cp, ve, rfl, -, -, hve⟩, hb⟩; have HB11 := Lib.hid (HY.out.trans (hb.mono HY.out.size)); have HVE : Hid (FaultIs ve 112 1 true w11) := Lib.hid (yerr hve); clear hve hb)
    | (go_at_call 10; (with_reducible refine (is_sen A 10 111 (by decide) (Lib.hid rfl) _ (HA.out.below HB11.out).sen).mono ?_); rintro e w12 ⟨rfl, hb⟩; have HB12 := Lib.hid (HB11.out.trans (hb.mono HB11.out.size)); have HV12 := Lib.hid (HVE.out.later hb); clear hb)
    | (go_at_call 10; (with_reducible refine (is_sen A 11 112 (by decide) (Lib.hid rfl) _ (HA.out.below HB12.out).sen).mono ?_); rintro e w13 ⟨rfl, hb⟩; have HB13 := Lib.hid (HB12.out.trans (hb.mono HB12.out.size)); have HV13 := Lib.hid (HV12.out.later hb); clear hb)
    | (go_at_call 10; (with_reducible refine (is_sen A 2 103 (by decide) (Lib.hid rfl) _ (HA.out.below HB13.out).sen).mono ?_); rintro e w14 ⟨rfl, hb⟩; have HB14 := Lib.hid (HB13.out.trans (hb.mono HB13.out.size)); have HV14 := Lib.hid (HV13.out.later hb); clear hb)
    | (go_at_call 18; (with_reducible refine (placed_is 112 1 (by decide) _).mono ?_); rintro e w15 ⟨rfl, hb⟩; have HB15 := Lib.hid (HB14.out.trans (hb.mono HB14.out.size)); have HV15 := Lib.hid (HV14.out.later hb); clear hb)
    | (go_at_call 17; (with_reducible refine (same_any ve 112 1 112 1 true true _ HV15.out).mono ?_); rintro e w16 ⟨rfl, hb⟩; have HB16 := Lib.hid (HB15.out.trans (hb.mono HB15.out.size)); clear hb))
  go_ret
  exact ⟨rfl, HB16.out⟩
theorem walk_AsmWrong (a0 : Int) (w : World) (w0 : (Lit.int .i64 a0).wf = true) (hL : laidMetH Tryd.prog Rows.asmWrongRow.laid w) :
    Calls Tryd.prog 6 #[.int .i64 a0] w fun e w' => e = .returned (.bool true) ∧ Below w.heap.size w w' := by
  rw [MakeChecks.laidMetH_plain _ _ _ (by kernel_rfl)] at hL
  have hS := sen_of hL (by
    intro n hn
    simp only [List.mem_cons, List.not_mem_nil, or_false] at hn
    rcases hn with rfl | rfl | rfl | rfl | rfl | rfl | rfl | rfl | rfl | rfl | rfl | rfl <;> exact ⟨_, by repeat (first | exact List.Mem.head _ | apply List.Mem.tail)⟩)
  have hC := code_of hL ⟨_, by repeat (first | exact List.Mem.head _ | apply List.Mem.tail)⟩ ⟨_, by repeat (first | exact List.Mem.head _ | apply List.Mem.tail)⟩ (by repeat (first | exact List.Mem.head _ | apply List.Mem.tail))
  exact wrong_any a0 (i64_fitC w0).1 (i64_fitC w0).2 w (asm_of hL hS hC (by repeat (first | exact List.Mem.head _ | apply List.Mem.tail)) (by repeat (first | exact List.Mem.head _ | apply List.Mem.tail)) (by repeat (first | exact List.Mem.head _ | apply List.Mem.tail)))
end Go.Proofs.YtaekccgcnlepaaaDoor
