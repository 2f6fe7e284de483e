/-
  BkD as one.
-/
import Derived.Test.YtkogmhgpkacehaaDoorBkA
import Derived.Test.YtkogmhgpkacehaaDoorP9
namespace Go.Proofs.YtkogmhgpkacehaaDoor
open Go.ChangeShapes Go.WideShapes Go.ChangeAt Go.RowKit
set_option linter.unusedVariables false
set_option linter.unusedSimpArgs false
theorem st0_nb : st0.nb = 0 := rfl
/-- Each within the one ahead of it. -/
def pD (k : Nat) (i : Nat) : Int := if i < k then (i : Int) - 1 else 0
theorem pD_put (k : Nat) (x : Int) (hx : x = (k : Int) - 1) : upd (pD k) k x = pD (k + 1) := by
  funext i
  unfold upd pD
  by_cases e : i = k
  · subst e; simp [hx]
  · rw [if_neg e]
    by_cases h : i < k
    · rw [if_pos h, if_pos (by omega)]
    · rw [if_neg h, if_neg (by omega)]
theorem pD_ok (k : Nat) : PrOk k (pD k) := fun i hi => by unfold pD; rw [if_pos hi]; omega
theorem pD_chain (k : Nat) (hk : k ≤ 256) : ∀ q : Nat, q < k → (chL (pD k) (q : Int)).length = q + 1 ∧ ∀ z : Int, z ∈ chL (pD k) (q : Int) ↔ 0 ≤ z ∧ z ≤ q := by
  intro q
  induction q with
  | zero =>
    intro hq
    rw [chL_cons (pD_ok k) 0 hq hk, show pD k 0 = -1 by unfold pD; rw [if_pos hq]; rfl, chL_neg _ _ (by omega)]
    refine ⟨rfl, fun z => ?_⟩
    simp
    omega
  | succ q ih =>
    intro hq
    have h := ih (by omega)
    rw [chL_cons (pD_ok k) (q + 1) hq hk, show pD k (q + 1) = (q : Int) by unfold pD; rw [if_pos hq]; omega]
    refine ⟨by rw [List.length_cons, h.1], fun z => ?_⟩
    rw [List.mem_cons, h.2 z]
    omega
theorem cntB_thN (k : Nat) : ∀ n, k ≤ n → cntB (thN k) n = k := by
  intro n
  induction n with
  | zero => intro h; have e : k = 0 := (by omega); subst e; rfl
  | succ n ih =>
    intro h
    unfold cntB
    by_cases e : k = n + 1
    · subst e
      have : ∀ m, m ≤ n → cntB (thN (n + 1)) m = m := by
        intro m
        induction m with
        | zero => intro _; rfl
        | succ m ih2 => intro hm; unfold cntB; rw [ih2 (by omega), if_pos (thN_at (by omega))]
      rw [this n (Nat.le_refl _), if_pos (thN_at (by omega))]
    · rw [ih (by omega), if_neg (by simp [thN]; omega)]
      rfl
theorem contains_iff {l : List Int} {x : Int} {b : Bool} (h : x ∈ l ↔ b = true) : l.contains x = b := by
  cases b
  · simp only [Bool.false_eq_true, iff_false] at h
    simpa using h
  · simpa using h
theorem aused_n {base p B n c : Nat} (k : Nat) (x : Int) (hx : Hid ((k : Int) = x)) (hk : k ≤ n) (w : World) (hA : ArAt w base p B n c (thN k) (fun _ => 0)) :
    Calls Tryd.prog 90 #[.pointer (some ⟨p, 0, none⟩)] w fun e w' => e = .returned (.int .i64 x) ∧ Below w.heap.size w w' :=
  (aused_is w hA).mono fun e w' ⟨h1, h2⟩ => ⟨by rw [h1, cntB_thN k n hk, hx.out], h2⟩
set_option maxRecDepth 100000 in
set_option maxHeartbeats 4000000 in
theorem bdepth_walk (a0 lim : Int) (n R : Nat) (hR : Hid (n = R + 1)) (hR9 : R < 12) (CR : Hid (∀ w, Calls Tryd.prog 71 #[.int .i64 a0, .int .i64 12] w fun e w' => e = .returned (.int .i64 (R : Int)) ∧ w = w')) (hlim : 0 ≤ lim ∧ lim ≤ 512) (w : World) (A : Nat → Addr) (hS : Sen A w) : Calls Tryd.prog 12 #[.int .i64 a0, .int .i64 lim] w fun e w' => e = .returned (.bool true) ∧ Below w.heap.size w w' := by
  have HS := Lib.hid hS
  have hn1 : (R : Int) + 1 = (n : Int) := by have := hR.out; omega
  have hn0 : 1 ≤ n := by have := hR.out; omega
  have hn : n ≤ 12 := by have := hR.out; omega
  obtain ⟨l0, l1⟩ := hlim
  have d0 : decide (0 ≤ lim) = true := decide_eq_true l0
  have d1 : decide (lim ≤ 512) = true := decide_eq_true l1
  clear hS
  go_enter Tryd.func12, Tryd.ntmps12
  go_wp2_with (first
    | (go_at_call 73; (with_reducible refine (bfirst_is _ A HS.out).mono ?_); rintro e w1 ⟨rfl, hb1⟩; have HB1 := Lib.hid hb1; have HS1 := Lib.hid (HS.out.below hb1); clear hb1)
    | (go_at_call 71; (with_reducible refine (CR.out _).mono ?_); rintro e w2 ⟨rfl, rfl⟩)
    | (go_at_call 74; (with_reducible refine (made18_is 2 2 2 16 2 2 2 16 (Lib.hid ⟨rfl, rfl, rfl, rfl⟩) (by decide) (by decide) (by decide) (by decide) _).mono ?_); rintro e w2 ⟨L, rfl, hW, hn⟩; have HW1 := Lib.hid hW; have HN := Lib.hid hn.out; clear hW hn)
    | (go_at_call 75; (with_reducible refine (bwroot_ok lim l0 l1 0 (Lib.hid rfl) (by rw [st0_nb]; have := HN.out; omega) _ HW1.out).mono ?_); rintro e w3 ⟨rfl, hW, hu⟩; have HW2 := Lib.hid hW; clear hW hu))
  have HPr : Hid ((openedB st0 (-1) lim).nb = 1 ∧ (openedB st0 (-1) lim).pr = pD 1) := Lib.hid ⟨rfl, by rw [← pD_put 0 (-1) (by decide)]; funext i; simp [openedB, st0, upd, pD]⟩
  go_loopw [12] (fun z wr => ∃ (i : Nat) (D : BSt), 1 ≤ i ∧ i ≤ n ∧ i ≤ 8 ∧ z = .int .i64 i ∧ BW w1 wr L D ∧ Hid (D.nb = i ∧ D.pr = pD i)) (fun z _ => n - (intOf z).toNat)
  case atStart => exact ⟨1, _, by omega, by omega, by omega, rfl, HW2.out, HPr⟩
  case round =>
    obtain ⟨i, D, hi1, hi2, hi3, rfl, hW, hD⟩ := hrel; have HW := Lib.hid hW; obtain ⟨hnb, hpr⟩ := hD.out; have HNb := Lib.hid hnb; have HPrD := Lib.hid hpr; obtain ⟨q, hq0⟩ : ∃ q : Nat, q + 1 = i := ⟨i - 1, by omega⟩; have HQ := Lib.hid hq0; have HQi : Hid ((i : Int) - 1 = (q : Int)) := Lib.hid (by omega); have hqnb : q < D.nb := (by rw [hnb]; omega); have HCh : Hid ((chL D.pr (q : Int)).length = i) := Lib.hid (by rw [hpr, (pD_chain i (by omega) q (by omega)).1]; exact hq0); have i0 : (1 : Int) ≤ i := (by omega); clear hW hD hnb hpr hq0
    by_cases hlt : i < n
    · by_cases h8 : i < 8
      · have d8 : decide ((8 : Int) ≤ (i : Int)) = false := decide_eq_false (by omega)
        have HPut : Hid (∀ D', D' = openedB D (q : Int) 5 → D'.nb = i + 1 ∧ D'.pr = pD (i + 1) ∧ PrOk D'.nb D'.pr) := Lib.hid (by
          rintro D' rfl
          have e : (openedB D (q : Int) 5).pr = pD (i + 1) := by
            show upd D.pr D.nb (q : Int) = _
            rw [HPrD.out, HNb.out]
            exact pD_put i _ (by have := HQi.out; omega)
          exact ⟨by show D.nb + 1 = _; rw [HNb.out], e, by rw [e]; show PrOk (D.nb + 1) _; rw [HNb.out]; exact pD_ok _⟩)
        have HChi := Lib.hid (pD_chain (i + 1) (by omega) i (by omega))
        have HCh0 := Lib.hid (pD_chain (i + 1) (by omega) 0 (by omega))
        go_wp2_with (first
          | (go_at_call 76; (with_reducible refine (bwsub_ok _ q HQi 5 (by decide) (by decide) hqnb (i : Int) (Lib.hid (by rw [HNb.out])) (by rw [HNb.out]; have := HN.out; omega) (Lib.hid (by rw [HCh.out]; exact h8)) _ HW.out).mono ?_); rintro e w4 ⟨rfl, hW, hu⟩; obtain ⟨D', hD'⟩ : ∃ D', D' = openedB D (q : Int) 5 := ⟨_, rfl⟩; rw [← hD'] at hW; obtain ⟨g1, g2, g3⟩ := HPut.out D' hD'; have HW4 := Lib.hid hW; have HG1 := Lib.hid g1; have HG2 := Lib.hid g2; have HG3 := Lib.hid g3; have HQ' := Lib.hid hD'; clear hW hu g1 g2 g3 hD')
          | (go_at_call 77; (with_reducible refine (bparent_is i (i : Int) ((i : Int) - 1) (Lib.hid rfl) (by rw [HG1.out]; omega) HW4.out.nn (Lib.hid (by rw [HG2.out]; unfold pD; rw [if_pos (by omega)])) _ HW4.out.kk).mono ?_); rintro e w5 ⟨rfl, rfl⟩)
          | (go_at_call 84; (with_reducible refine (bwithin_is (i : Int) 0 true (by omega) (by rw [HG1.out]; omega) HW4.out.nn HG3 (Lib.hid (by rw [HG2.out]; exact contains_iff (by rw [HChi.out.2]; simp))) _ HW4.out.kk).mono ?_); rintro e w6 ⟨rfl, hb⟩; have HW6 := Lib.hid (HW4.out.below hb); clear hb)
          | (go_at_call 84; (with_reducible refine (bwithin_is 0 (i : Int) false (by omega) (by rw [HG1.out]; omega) HW6.out.nn HG3 (Lib.hid (by rw [HG2.out]; exact contains_iff (by rw [show (0 : Int) = ((0 : Nat) : Int) from rfl, HCh0.out.2]; simp; omega))) _ HW6.out.kk).mono ?_); rintro e w7 ⟨rfl, hb⟩; have HW7 := Lib.hid (HW6.out.below hb); clear hb)
          | (go_at_call 84; (with_reducible refine (bwithin_is (i : Int) (i : Int) true (by omega) (by rw [HG1.out]; omega) HW7.out.nn HG3 (Lib.hid (by rw [HG2.out]; exact contains_iff (by rw [HChi.out.2]; simp))) _ HW7.out.kk).mono ?_); rintro e w8 ⟨rfl, hb⟩; have HW8 := Lib.hid (HW7.out.below hb); clear hb))
        go_roundw
        case rel => exact ⟨i + 1, D', by omega, by omega, by omega, by go_num, HW8.out, Lib.hid ⟨HG1.out, HG2.out⟩⟩
        case measure => simp [intOf]; omega
      · have d8 : decide ((8 : Int) ≤ (i : Int)) = true := decide_eq_true (by omega)
        go_wp2_with (first
          | (go_at_call 76; (with_reducible refine (bwsub_many _ q HQi 5 (by decide) (by decide) hqnb (Lib.hid (by rw [HCh.out]; omega)) _ (eV (sA A 3)) HW.out (HS1.out.below HW.out.bel).c3 (HS1.out.below HW.out.bel).s3).mono ?_); rintro e w4 ⟨rfl, hb⟩; have HW4 := Lib.hid (HW.out.below hb); clear hb)
          | (go_at_call 20; (with_reducible refine (is_sen A 3 104 (by decide) (Lib.hid (by decide)) _ (HS1.out.below HW4.out.bel)).mono ?_); rintro e w5 ⟨rfl, hb⟩; have HW5 := Lib.hid (HW4.out.below hb); have HU5 := Lib.hid (HW4.out.below hb).kk.ar; have f5 := (HW4.out.below hb).kk.f0; rw [HNb.out] at HU5; clear hb)
          | (go_at_call 90; (with_reducible refine (aused_n i 8 (Lib.hid (by omega)) (by have := HN.out; omega) _ HU5.out).mono ?_); rintro e w6 ⟨rfl, hb⟩; have HB6 := Lib.hid (HW5.out.below hb).bel; clear hb f5))
        go_ret
        exact ⟨rfl, HB1.out.trans (HB6.out.mono HB1.out.size)⟩
    · obtain rfl : i = n := by omega
      have hdd : decide (i < i) = false := by simp
      have HU := Lib.hid HW.out.kk.ar
      rw [HNb.out] at HU
      have f5 := HW.out.kk.f0
      go_wp2_with (first
        | (go_at_call 90; (with_reducible refine (aused_n i (i : Int) (Lib.hid rfl) (by have := HN.out; omega) _ HU.out).mono ?_); rintro e w6 ⟨rfl, hb⟩; have HB6 := Lib.hid (HW.out.below hb).bel; clear hb f5))
      go_ret
      exact ⟨rfl, HB1.out.trans (HB6.out.mono HB1.out.size)⟩
set_option maxRecDepth 100000 in
set_option maxHeartbeats 4000000 in
theorem bdepth_neg (a0 lim : Int) (n R : Nat) (hR : Hid (n = R + 1)) (hR9 : R < 12) (CR : Hid (∀ w, Calls Tryd.prog 71 #[.int .i64 a0, .int .i64 12] w fun e w' => e = .returned (.int .i64 (R : Int)) ∧ w = w')) (hneg : lim < 0) (w : World) (A : Nat → Addr) (hS : Sen A w) : Calls Tryd.prog 12 #[.int .i64 a0, .int .i64 lim] w fun e w' => e = .returned (.bool true) ∧ Below w.heap.size w w' := by
  have HS := Lib.hid hS
  have hn1 : (R : Int) + 1 = (n : Int) := by have := hR.out; omega
  have hn0 : 1 ≤ n := by have := hR.out; omega
  have hn : n ≤ 12 := by have := hR.out; omega
  have hlim : ¬ (0 ≤ lim ∧ lim ≤ 512) := by omega
  have d0 : decide (0 ≤ lim) = false := decide_eq_false (by omega)
  clear hneg
  clear hS
  go_enter Tryd.func12, Tryd.ntmps12
  go_wp2_with (first
    | (go_at_call 73; (with_reducible refine (bfirst_is _ A HS.out).mono ?_); rintro e w1 ⟨rfl, hb1⟩; have HB1 := Lib.hid hb1; have HS1 := Lib.hid (HS.out.below hb1); clear hb1)
    | (go_at_call 71; (with_reducible refine (CR.out _).mono ?_); rintro e w2 ⟨rfl, rfl⟩)
    | (go_at_call 74; (with_reducible refine (made18_is 2 2 2 16 2 2 2 16 (Lib.hid ⟨rfl, rfl, rfl, rfl⟩) (by decide) (by decide) (by decide) (by decide) _).mono ?_); rintro e w2 ⟨L, rfl, hW, hn⟩; have HW1 := Lib.hid hW; have HN := Lib.hid hn.out; clear hW hn)
    | (go_at_call 75; (with_reducible refine (bwroot_range lim hlim _ (eV (sA A 2)) (HS1.out.below HW1.out.bel).c2 HW1.out).mono ?_); rintro e w3 ⟨rfl, hb⟩; have HWr := Lib.hid (HW1.out.below hb); clear hb)
    | (go_at_call 20; (with_reducible refine (is_sen A 2 103 (by decide) (Lib.hid (by decide)) _ (HS1.out.below HWr.out.bel)).mono ?_); rintro e w4 ⟨rfl, hb⟩; have HWs := Lib.hid (HWr.out.below hb); clear hb)
    | (go_at_call 75; (with_reducible refine (bwroot_ok 5 (by decide) (by decide) 0 (Lib.hid rfl) (by rw [st0_nb]; have := HN.out; omega) _ HWs.out).mono ?_); rintro e w5 ⟨rfl, hW, hu⟩; have HW2 := Lib.hid hW; clear hW hu))
  have HPr : Hid ((openedB st0 (-1) 5).nb = 1 ∧ (openedB st0 (-1) 5).pr = pD 1) := Lib.hid ⟨rfl, by rw [← pD_put 0 (-1) (by decide)]; funext i; simp [openedB, st0, upd, pD]⟩
  go_loopw [12] (fun z wr => ∃ (i : Nat) (D : BSt), 1 ≤ i ∧ i ≤ n ∧ i ≤ 8 ∧ z = .int .i64 i ∧ BW w1 wr L D ∧ Hid (D.nb = i ∧ D.pr = pD i)) (fun z _ => n - (intOf z).toNat)
  case atStart => exact ⟨1, _, by omega, by omega, by omega, rfl, HW2.out, HPr⟩
  case round =>
    obtain ⟨i, D, hi1, hi2, hi3, rfl, hW, hD⟩ := hrel; have HW := Lib.hid hW; obtain ⟨hnb, hpr⟩ := hD.out; have HNb := Lib.hid hnb; have HPrD := Lib.hid hpr; obtain ⟨q, hq0⟩ : ∃ q : Nat, q + 1 = i := ⟨i - 1, by omega⟩; have HQ := Lib.hid hq0; have HQi : Hid ((i : Int) - 1 = (q : Int)) := Lib.hid (by omega); have hqnb : q < D.nb := (by rw [hnb]; omega); have HCh : Hid ((chL D.pr (q : Int)).length = i) := Lib.hid (by rw [hpr, (pD_chain i (by omega) q (by omega)).1]; exact hq0); have i0 : (1 : Int) ≤ i := (by omega); clear hW hD hnb hpr hq0
    by_cases hlt : i < n
    · by_cases h8 : i < 8
      · have d8 : decide ((8 : Int) ≤ (i : Int)) = false := decide_eq_false (by omega)
        have HPut : Hid (∀ D', D' = openedB D (q : Int) 5 → D'.nb = i + 1 ∧ D'.pr = pD (i + 1) ∧ PrOk D'.nb D'.pr) := Lib.hid (by
          rintro D' rfl
          have e : (openedB D (q : Int) 5).pr = pD (i + 1) := by
            show upd D.pr D.nb (q : Int) = _
            rw [HPrD.out, HNb.out]
            exact pD_put i _ (by have := HQi.out; omega)
          exact ⟨by show D.nb + 1 = _; rw [HNb.out], e, by rw [e]; show PrOk (D.nb + 1) _; rw [HNb.out]; exact pD_ok _⟩)
        have HChi := Lib.hid (pD_chain (i + 1) (by omega) i (by omega))
        have HCh0 := Lib.hid (pD_chain (i + 1) (by omega) 0 (by omega))
        go_wp2_with (first
          | (go_at_call 76; (with_reducible refine (bwsub_ok _ q HQi 5 (by decide) (by decide) hqnb (i : Int) (Lib.hid (by rw [HNb.out])) (by rw [HNb.out]; have := HN.out; omega) (Lib.hid (by rw [HCh.out]; exact h8)) _ HW.out).mono ?_); rintro e w4 ⟨rfl, hW, hu⟩; obtain ⟨D', hD'⟩ : ∃ D', D' = openedB D (q : Int) 5 := ⟨_, rfl⟩; rw [← hD'] at hW; obtain ⟨g1, g2, g3⟩ := HPut.out D' hD'; have HW4 := Lib.hid hW; have HG1 := Lib.hid g1; have HG2 := Lib.hid g2; have HG3 := Lib.hid g3; have HQ' := Lib.hid hD'; clear hW hu g1 g2 g3 hD')
          | (go_at_call 77; (with_reducible refine (bparent_is i (i : Int) ((i : Int) - 1) (Lib.hid rfl) (by rw [HG1.out]; omega) HW4.out.nn (Lib.hid (by rw [HG2.out]; unfold pD; rw [if_pos (by omega)])) _ HW4.out.kk).mono ?_); rintro e w5 ⟨rfl, rfl⟩)
          | (go_at_call 84; (with_reducible refine (bwithin_is (i : Int) 0 true (by omega) (by rw [HG1.out]; omega) HW4.out.nn HG3 (Lib.hid (by rw [HG2.out]; exact contains_iff (by rw [HChi.out.2]; simp))) _ HW4.out.kk).mono ?_); rintro e w6 ⟨rfl, hb⟩; have HW6 := Lib.hid (HW4.out.below hb); clear hb)
          | (go_at_call 84; (with_reducible refine (bwithin_is 0 (i : Int) false (by omega) (by rw [HG1.out]; omega) HW6.out.nn HG3 (Lib.hid (by rw [HG2.out]; exact contains_iff (by rw [show (0 : Int) = ((0 : Nat) : Int) from rfl, HCh0.out.2]; simp; omega))) _ HW6.out.kk).mono ?_); rintro e w7 ⟨rfl, hb⟩; have HW7 := Lib.hid (HW6.out.below hb); clear hb)
          | (go_at_call 84; (with_reducible refine (bwithin_is (i : Int) (i : Int) true (by omega) (by rw [HG1.out]; omega) HW7.out.nn HG3 (Lib.hid (by rw [HG2.out]; exact contains_iff (by rw [HChi.out.2]; simp))) _ HW7.out.kk).mono ?_); rintro e w8 ⟨rfl, hb⟩; have HW8 := Lib.hid (HW7.out.below hb); clear hb))
        go_roundw
        case rel => exact ⟨i + 1, D', by omega, by omega, by omega, by go_num, HW8.out, Lib.hid ⟨HG1.out, HG2.out⟩⟩
        case measure => simp [intOf]; omega
      · have d8 : decide ((8 : Int) ≤ (i : Int)) = true := decide_eq_true (by omega)
        go_wp2_with (first
          | (go_at_call 76; (with_reducible refine (bwsub_many _ q HQi 5 (by decide) (by decide) hqnb (Lib.hid (by rw [HCh.out]; omega)) _ (eV (sA A 3)) HW.out (HS1.out.below HW.out.bel).c3 (HS1.out.below HW.out.bel).s3).mono ?_); rintro e w4 ⟨rfl, hb⟩; have HW4 := Lib.hid (HW.out.below hb); clear hb)
          | (go_at_call 20; (with_reducible refine (is_sen A 3 104 (by decide) (Lib.hid (by decide)) _ (HS1.out.below HW4.out.bel)).mono ?_); rintro e w5 ⟨rfl, hb⟩; have HW5 := Lib.hid (HW4.out.below hb); have HU5 := Lib.hid (HW4.out.below hb).kk.ar; have f5 := (HW4.out.below hb).kk.f0; rw [HNb.out] at HU5; clear hb)
          | (go_at_call 90; (with_reducible refine (aused_n i 8 (Lib.hid (by omega)) (by have := HN.out; omega) _ HU5.out).mono ?_); rintro e w6 ⟨rfl, hb⟩; have HB6 := Lib.hid (HW5.out.below hb).bel; clear hb f5))
        go_ret
        exact ⟨rfl, HB1.out.trans (HB6.out.mono HB1.out.size)⟩
    · obtain rfl : i = n := by omega
      have hdd : decide (i < i) = false := by simp
      have HU := Lib.hid HW.out.kk.ar
      rw [HNb.out] at HU
      have f5 := HW.out.kk.f0
      go_wp2_with (first
        | (go_at_call 90; (with_reducible refine (aused_n i (i : Int) (Lib.hid rfl) (by have := HN.out; omega) _ HU.out).mono ?_); rintro e w6 ⟨rfl, hb⟩; have HB6 := Lib.hid (HW.out.below hb).bel; clear hb f5))
      go_ret
      exact ⟨rfl, HB1.out.trans (HB6.out.mono HB1.out.size)⟩
set_option maxRecDepth 100000 in
set_option maxHeartbeats 4000000 in
theorem bdepth_big (a0 lim : Int) (n R : Nat) (hR : Hid (n = R + 1)) (hR9 : R < 12) (CR : Hid (∀ w, Calls Tryd.prog 71 #[.int .i64 a0, .int .i64 12] w fun e w' => e = .returned (.int .i64 (R : Int)) ∧ w = w')) (hbig : 512 < lim) (w : World) (A : Nat → Addr) (hS : Sen A w) : Calls Tryd.prog 12 #[.int .i64 a0, .int .i64 lim] w fun e w' => e = .returned (.bool true) ∧ Below w.heap.size w w' := by
  have HS := Lib.hid hS
  have hn1 : (R : Int) + 1 = (n : Int) := by have := hR.out; omega
  have hn0 : 1 ≤ n := by have := hR.out; omega
  have hn : n ≤ 12 := by have := hR.out; omega
  have hlim : ¬ (0 ≤ lim ∧ lim ≤ 512) := by omega
  have d0 : decide (0 ≤ lim) = true := decide_eq_true (by omega)
  have d1 : decide (lim ≤ 512) = false := decide_eq_false (by omega)
  clear hbig
  clear hS
  go_enter Tryd.func12, Tryd.ntmps12
  go_wp2_with (first
    | (go_at_call 73; (with_reducible refine (bfirst_is _ A HS.out).mono ?_); rintro e w1 ⟨rfl, hb1⟩; have HB1 := Lib.hid hb1; have HS1 := Lib.hid (HS.out.below hb1); clear hb1)
    | (go_at_call 71; (with_reducible refine (CR.out _).mono ?_); rintro e w2 ⟨rfl, rfl⟩)
    | (go_at_call 74; (with_reducible refine (made18_is 2 2 2 16 2 2 2 16 (Lib.hid ⟨rfl, rfl, rfl, rfl⟩) (by decide) (by decide) (by decide) (by decide) _).mono ?_); rintro e w2 ⟨L, rfl, hW, hn⟩; have HW1 := Lib.hid hW; have HN := Lib.hid hn.out; clear hW hn)
    | (go_at_call 75; (with_reducible refine (bwroot_range lim hlim _ (eV (sA A 2)) (HS1.out.below HW1.out.bel).c2 HW1.out).mono ?_); rintro e w3 ⟨rfl, hb⟩; have HWr := Lib.hid (HW1.out.below hb); clear hb)
    | (go_at_call 20; (with_reducible refine (is_sen A 2 103 (by decide) (Lib.hid (by decide)) _ (HS1.out.below HWr.out.bel)).mono ?_); rintro e w4 ⟨rfl, hb⟩; have HWs := Lib.hid (HWr.out.below hb); clear hb)
    | (go_at_call 75; (with_reducible refine (bwroot_ok 5 (by decide) (by decide) 0 (Lib.hid rfl) (by rw [st0_nb]; have := HN.out; omega) _ HWs.out).mono ?_); rintro e w5 ⟨rfl, hW, hu⟩; have HW2 := Lib.hid hW; clear hW hu))
  have HPr : Hid ((openedB st0 (-1) 5).nb = 1 ∧ (openedB st0 (-1) 5).pr = pD 1) := Lib.hid ⟨rfl, by rw [← pD_put 0 (-1) (by decide)]; funext i; simp [openedB, st0, upd, pD]⟩
  go_loopw [12] (fun z wr => ∃ (i : Nat) (D : BSt), 1 ≤ i ∧ i ≤ n ∧ i ≤ 8 ∧ z = .int .i64 i ∧ BW w1 wr L D ∧ Hid (D.nb = i ∧ D.pr = pD i)) (fun z _ => n - (intOf z).toNat)
  case atStart => exact ⟨1, _, by omega, by omega, by omega, rfl, HW2.out, HPr⟩
  case round =>
    obtain ⟨i, D, hi1, hi2, hi3, rfl, hW, hD⟩ := hrel; have HW := Lib.hid hW; obtain ⟨hnb, hpr⟩ := hD.out; have HNb := Lib.hid hnb; have HPrD := Lib.hid hpr; obtain ⟨q, hq0⟩ : ∃ q : Nat, q + 1 = i := ⟨i - 1, by omega⟩; have HQ := Lib.hid hq0; have HQi : Hid ((i : Int) - 1 = (q : Int)) := Lib.hid (by omega); have hqnb : q < D.nb := (by rw [hnb]; omega); have HCh : Hid ((chL D.pr (q : Int)).length = i) := Lib.hid (by rw [hpr, (pD_chain i (by omega) q (by omega)).1]; exact hq0); have i0 : (1 : Int) ≤ i := (by omega); clear hW hD hnb hpr hq0
    by_cases hlt : i < n
    · by_cases h8 : i < 8
      · have d8 : decide ((8 : Int) ≤ (i : Int)) = false := decide_eq_false (by omega)
        have HPut : Hid (∀ D', D' = openedB D (q : Int) 5 → D'.nb = i + 1 ∧ D'.pr = pD (i + 1) ∧ PrOk D'.nb D'.pr) := Lib.hid (by
          rintro D' rfl
          have e : (openedB D (q : Int) 5).pr = pD (i + 1) := by
            show upd D.pr D.nb (q : Int) = _
            rw [HPrD.out, HNb.out]
            exact pD_put i _ (by have := HQi.out; omega)
          exact ⟨by show D.nb + 1 = _; rw [HNb.out], e, by rw [e]; show PrOk (D.nb + 1) _; rw [HNb.out]; exact pD_ok _⟩)
        have HChi := Lib.hid (pD_chain (i + 1) (by omega) i (by omega))
        have HCh0 := Lib.hid (pD_chain (i + 1) (by omega) 0 (by omega))
        go_wp2_with (first
          | (go_at_call 76; (with_reducible refine (bwsub_ok _ q HQi 5 (by decide) (by decide) hqnb (i : Int) (Lib.hid (by rw [HNb.out])) (by rw [HNb.out]; have := HN.out; omega) (Lib.hid (by rw [HCh.out]; exact h8)) _ HW.out).mono ?_); rintro e w4 ⟨rfl, hW, hu⟩; obtain ⟨D', hD'⟩ : ∃ D', D' = openedB D (q : Int) 5 := ⟨_, rfl⟩; rw [← hD'] at hW; obtain ⟨g1, g2, g3⟩ := HPut.out D' hD'; have HW4 := Lib.hid hW; have HG1 := Lib.hid g1; have HG2 := Lib.hid g2; have HG3 := Lib.hid g3; have HQ' := Lib.hid hD'; clear hW hu g1 g2 g3 hD')
          | (go_at_call 77; (with_reducible refine (bparent_is i (i : Int) ((i : Int) - 1) (Lib.hid rfl) (by rw [HG1.out]; omega) HW4.out.nn (Lib.hid (by rw [HG2.out]; unfold pD; rw [if_pos (by omega)])) _ HW4.out.kk).mono ?_); rintro e w5 ⟨rfl, rfl⟩)
          | (go_at_call 84; (with_reducible refine (bwithin_is (i : Int) 0 true (by omega) (by rw [HG1.out]; omega) HW4.out.nn HG3 (Lib.hid (by rw [HG2.out]; exact contains_iff (by rw [HChi.out.2]; simp))) _ HW4.out.kk).mono ?_); rintro e w6 ⟨rfl, hb⟩; have HW6 := Lib.hid (HW4.out.below hb); clear hb)
          | (go_at_call 84; (with_reducible refine (bwithin_is 0 (i : Int) false (by omega) (by rw [HG1.out]; omega) HW6.out.nn HG3 (Lib.hid (by rw [HG2.out]; exact contains_iff (by rw [show (0 : Int) = ((0 : Nat) : Int) from rfl, HCh0.out.2]; simp; omega))) _ HW6.out.kk).mono ?_); rintro e w7 ⟨rfl, hb⟩; have HW7 := Lib.hid (HW6.out.below hb); clear hb)
          | (go_at_call 84; (with_reducible refine (bwithin_is (i : Int) (i : Int) true (by omega) (by rw [HG1.out]; omega) HW7.out.nn HG3 (Lib.hid (by rw [HG2.out]; exact contains_iff (by rw [HChi.out.2]; simp))) _ HW7.out.kk).mono ?_); rintro e w8 ⟨rfl, hb⟩; have HW8 := Lib.hid (HW7.out.below hb); clear hb))
        go_roundw
        case rel => exact ⟨i + 1, D', by omega, by omega, by omega, by go_num, HW8.out, Lib.hid ⟨HG1.out, HG2.out⟩⟩
        case measure => simp [intOf]; omega
      · have d8 : decide ((8 : Int) ≤ (i : Int)) = true := decide_eq_true (by omega)
        go_wp2_with (first
          | (go_at_call 76; (with_reducible refine (bwsub_many _ q HQi 5 (by decide) (by decide) hqnb (Lib.hid (by rw [HCh.out]; omega)) _ (eV (sA A 3)) HW.out (HS1.out.below HW.out.bel).c3 (HS1.out.below HW.out.bel).s3).mono ?_); rintro e w4 ⟨rfl, hb⟩; have HW4 := Lib.hid (HW.out.below hb); clear hb)
          | (go_at_call 20; (with_reducible refine (is_sen A 3 104 (by decide) (Lib.hid (by decide)) _ (HS1.out.below HW4.out.bel)).mono ?_); rintro e w5 ⟨rfl, hb⟩; have HW5 := Lib.hid (HW4.out.below hb); have HU5 := Lib.hid (HW4.out.below hb).kk.ar; have f5 := (HW4.out.below hb).kk.f0; rw [HNb.out] at HU5; clear hb)
          | (go_at_call 90; (with_reducible refine (aused_n i 8 (Lib.hid (by omega)) (by have := HN.out; omega) _ HU5.out).mono ?_); rintro e w6 ⟨rfl, hb⟩; have HB6 := Lib.hid (HW5.out.below hb).bel; clear hb f5))
        go_ret
        exact ⟨rfl, HB1.out.trans (HB6.out.mono HB1.out.size)⟩
    · obtain rfl : i = n := by omega
      have hdd : decide (i < i) = false := by simp
      have HU := Lib.hid HW.out.kk.ar
      rw [HNb.out] at HU
      have f5 := HW.out.kk.f0
      go_wp2_with (first
        | (go_at_call 90; (with_reducible refine (aused_n i (i : Int) (Lib.hid rfl) (by have := HN.out; omega) _ HU.out).mono ?_); rintro e w6 ⟨rfl, hb⟩; have HB6 := Lib.hid (HW.out.below hb).bel; clear hb f5))
      go_ret
      exact ⟨rfl, HB1.out.trans (HB6.out.mono HB1.out.size)⟩
theorem walk_BankDepth (a0 : Int) (a1 : Int) (w : World) (w0 : (Lit.int .i64 a0).wf = true) (w1 : (Lit.int .i64 a1).wf = true) (hL : laidMetH Tryd.prog Rows.bankDepthRow.laid w) :
    Calls Tryd.prog 12 #[.int .i64 a0, .int .i64 a1] w fun e w' => e = .returned (.bool true) ∧ Below w.heap.size w w' := by
  have hS := (sen_of hL (by intro n hn; simp only [List.mem_cons, List.not_mem_nil, or_false] at hn; rcases hn with rfl | rfl | rfl | rfl | rfl | rfl | rfl | rfl | rfl | rfl | rfl | rfl <;> exact ⟨_, by repeat (first | exact List.Mem.head _ | apply List.Mem.tail)⟩))
  clear hL
  obtain ⟨R, hR, CR⟩ := number_nat a0 12 12 rfl (by decide) (by decide) (fit64 w0).1 (fit64 w0).2
  by_cases h0 : a1 < 0
  · exact bdepth_neg a0 a1 (R + 1) R (Lib.hid rfl) hR (Lib.hid CR) h0 w _ hS
  · by_cases h1 : 512 < a1
    · exact bdepth_big a0 a1 (R + 1) R (Lib.hid rfl) hR (Lib.hid CR) h1 w _ hS
    · exact bdepth_walk a0 a1 (R + 1) R (Lib.hid rfl) hR (Lib.hid CR) (by omega) w _ hS
end Go.Proofs.YtkogmhgpkacehaaDoor
