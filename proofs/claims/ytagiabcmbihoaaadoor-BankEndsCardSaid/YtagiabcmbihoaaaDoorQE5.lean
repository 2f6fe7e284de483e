/-
  Jg, Jh: what BankEnds reaches of them.
-/
import Derived.Test.YtagiabcmbihoaaaDoorQE4
namespace Go.Proofs.YtagiabcmbihoaaaDoor
open Go.ChangeShapes Go.WideShapes Go.ChangeAt Go.RowKit
set_option linter.unusedVariables false
set_option linter.unusedSimpArgs false
set_option maxRecDepth 100000 in
set_option maxHeartbeats 8000000 in
theorem ends_walk (a0 : Option Addr) (len0 cap0 : Nat) (f0 : Nat → Int) (a1 : Option Addr) (len1 cap1 : Nat) (f1 : Nat → Int) (x2 : Int) (hx2 : -9223372036854775808 ≤ x2 ∧ x2 ≤ 9223372036854775807) (l0 : len0 ≤ 5) (l1 : len1 ≤ 30) (w : World) (A : Nat → Addr) (hS : Sen A w) (r0 : RowF w a0 len0 f0) (r1 : RowF w a1 len1 f1) : Calls Tryd.prog 3 #[.slice a0 len0 cap0, .slice a1 len1 cap1, .int .i64 x2] w fun e w' => e = .returned (.bool true) ∧ Below w.heap.size w w' := by
  have HS := Lib.hid hS
  have HR0 := Lib.hid r0
  have HR1 := Lib.hid r1
  have HX2 := Lib.hid hx2
  have d0 : decide ((5 : Int) < (len0 : Int)) = false := decide_eq_false (by omega)
  have d1 : decide ((30 : Int) < (len1 : Int)) = false := decide_eq_false (by omega)
  obtain ⟨ik, hi, hz0, hz1, hz2⟩ := info_parts infoKeyO
  have HI := Lib.hid (⟨hi, hz0, hz1, hz2⟩ : Tryd.prog.info? 38 = some ik ∧ ik.zero = some (.agg #[.int .i64 0, .int .i64 0, .int .i64 0, .int .i64 0, .int .u32 0]) ∧ ik.size = 5 ∧ ik.bytes = 40)
  clear hS r0 r1 hx2 hi hz0 hz1 hz2
  go_enter Tryd.func3, Tryd.ntmps3
  go_wp2_with (first
    | (go_at_call 4; (with_reducible refine (bfirst_is _ A HS.out).mono ?_); rintro e w1 ⟨rfl, hb1⟩; have HB1 := Lib.hid hb1; clear hb1)
    | (go_at_call 5; (with_reducible refine (made18_is 32 32 8 8 32 32 8 8 (Lib.hid ⟨rfl, rfl, rfl, rfl⟩) (by decide) (by decide) (by decide) (by decide) _).mono ?_); rintro e w2 ⟨L, rfl, hW, hn⟩; have HW1 := Lib.hid hW; have HN := Lib.hid hn.out; clear hW hn)
    | (go_at_call 6; (with_reducible refine (bwroot_ok 100 (by decide) (by decide) 0 (Lib.hid rfl) (by rw [st0_nb]; have := HN.out; omega) _ HW1.out).mono ?_); rintro e w3 ⟨rfl, hW, hu⟩; have HW2 := Lib.hid hW; clear hW hu))
  go_loopw [11, 12] (fun x z wr => ∃ i k : Nat, i ≤ len0 ∧ k = i + 1 ∧ x = .int .i64 (k : Int) ∧ z = .int .i64 (i : Int) ∧ EJ w1 L k 0 0 0 wr) (fun _ z _ => len0 - (intOf z).toNat)
  case atStart => exact ⟨0, 1, Nat.zero_le _, rfl, rfl, rfl, _, HW2.out, CE.st L, rfl⟩
  case round =>
    clear HW1 HW2
    obtain ⟨i, k, hi, hk, rfl, rfl, hE⟩ := hrel
    have HE := Lib.hid hE
    have HR0w := Lib.hid (HR0.out.below (HB1.out.trans (hE.bel.mono HB1.out.size)))
    have i0 : (0 : Int) ≤ i := by omega
    have hkb : 1 ≤ k ∧ k ≤ 6 := by omega
    have HK := Lib.hid hk
    clear hE hk
    by_cases hlt : i < len0
    · have hk6 : k < 6 := by have := HK.out; omega
      obtain ⟨q, hq, hqc⟩ := num_f (f0 i) (HR0.out.fit i hlt) k (by omega) (by omega) (k : Int) (Lib.hid rfl)
      have HCQ := Lib.hid hqc
      have HQ := Lib.hid hq
      obtain ⟨ad, e1, hb, hc1⟩ := HR0w.out.src i hlt
      subst e1
      clear hqc hb hq
      go_wp2_with (first
        | (go_at_call 8; (with_reducible refine (HCQ.out _).mono ?_); rintro e w2 ⟨rfl, rfl⟩)
        | (go_at_call 7; (with_reducible refine (HE.out.sub HN.out.2.2.2 (by omega) q HQ.out).mono ?_); rintro e w3 ⟨rfl, hW⟩; have HW3 := Lib.hid hW; clear hW))
      go_roundw
      case rel => exact ⟨i + 1, k + 1, by omega, by have := HK.out; omega, by go_num, by go_num, HW3.out⟩
      case measure => simp [intOf]; omega
    · have hk6 : k ≤ 6 := by omega
      have hk1 : 1 ≤ k := by omega
      clear HR0w
      go_wp2_with fail
      go_loopw [16] (fun z wt => ∃ j a b c : Nat, j ≤ len1 ∧ z = .int .i64 (j : Int) ∧ a = (j + 2) / 3 ∧ b = (j + 1) / 3 ∧ EJ w1 L k a b c wt) (fun z _ => len1 - (intOf z).toNat)
      case atStart => exact ⟨0, 0, 0, 0, Nat.zero_le _, rfl, rfl, rfl, HE.out⟩
      case round =>
        clear HE hlt hi
        obtain ⟨j, a, b, c, hj, rfl, ha, hb3, hE⟩ := hrel
        have HE := Lib.hid hE
        have HBw := Lib.hid (HB1.out.trans (hE.bel.mono HB1.out.size))
        have j0 : (0 : Int) ≤ j := by omega
        have HAB := Lib.hid (⟨ha, hb3⟩ : a = (j + 2) / 3 ∧ b = (j + 1) / 3)
        clear hE ha hb3
        by_cases hlt : j < len1
        · have HR1w := Lib.hid (HR1.out.below HBw.out)
          have HSr : Hid (Sen A wr) := Lib.hid (HS.out.below HBw.out)
          have HEr : Hid (ErrsAt (eV (sA A 1)) (eV (sA A 2)) wr) := Lib.hid ⟨HSr.out.c1, HSr.out.c2, HSr.out.s1, HSr.out.s2⟩
          obtain ⟨q, hq, hqc⟩ := num_f (f1 j) (HR1.out.fit j hlt) k (by omega) (by omega) (k : Int) (Lib.hid rfl)
          have HCQ := Lib.hid hqc
          have HQ := Lib.hid hq
          have hjw : IntKind.u32.wrap (j : Int) = (j : Int) := by rw [IntKind.wrap_u32]; omega
          have hmm : (j : Int).tmod 3 = ((j % 3 : Nat) : Int) := by rw [Int.tmod_eq_emod_of_nonneg (by omega)]; omega
          obtain ⟨ad, e1, hb, hc1⟩ := HR1w.out.src j hlt
          subst e1
          clear hqc hb hq HR1w
          have h3 : j % 3 = 0 ∨ j % 3 = 1 ∨ j % 3 = 2 := by omega
          rcases h3 with h3 | h3 | h3
          · have t0 : ((j : Int).tmod 3 == 0) = true := by rw [hmm, h3]; rfl
            clear hmm
            go_wp2_with (first
              | (go_at_call 8; (with_reducible refine (HCQ.out _).mono ?_); rintro e w2 ⟨rfl, rfl⟩)
              | (go_at_call 9; (with_reducible refine (HE.out.node HN.out.1 (by have := HAB.out.1; omega) q HQ.out (j : Int) (by omega) (by omega) _ (eV (sA A 1)) (eV (sA A 2)) HEr.out).mono ?_); rintro e w3 ⟨⟨r, s, t, rfl⟩, hW⟩; have HW3 := Lib.hid hW; clear hW))
            go_roundw
            case rel => exact ⟨j + 1, a + 1, b, c, by omega, by go_num, by have := HAB.out; omega, by have := HAB.out; omega, HW3.out⟩
            case measure => simp [intOf]; omega
          · have t0 : ((j : Int).tmod 3 == 0) = false := by rw [hmm, h3]; rfl
            have t1 : ((j : Int).tmod 3 == 1) = true := by rw [hmm, h3]; rfl
            clear hmm
            go_wp2_with (first
              | (go_at_call 8; (with_reducible refine (HCQ.out _).mono ?_); rintro e w2 ⟨rfl, rfl⟩)
              | (go_at_call 10; (with_reducible refine (HE.out.page HN.out.2.1 (by have := HAB.out.2; omega) q HQ.out (j : Int) _).mono ?_); rintro e w3 ⟨⟨r, s, t, rfl⟩, hW⟩; have HW3 := Lib.hid hW; clear hW))
            go_roundw
            case rel => exact ⟨j + 1, a, b + 1, c, by omega, by go_num, by have := HAB.out; omega, by have := HAB.out; omega, HW3.out⟩
            case measure => simp [intOf]; omega
          · have t0 : ((j : Int).tmod 3 == 0) = false := by rw [hmm, h3]; rfl
            have t1 : ((j : Int).tmod 3 == 1) = false := by rw [hmm, h3]; rfl
            clear hmm
            go_wp2_with (first
              | (go_at_call 8; (with_reducible refine (HCQ.out _).mono ?_); rintro e w2 ⟨rfl, rfl⟩)
              | (go_at_call 11; (with_reducible refine (HE.out.dom HN.out.2.2.1 q HQ.out (sA A 5) HSr.out.c5).mono ?_); rintro e w3 ⟨⟨r, s, t, rfl⟩, c', hW⟩; have HW3 := Lib.hid hW; clear hW))
            go_roundw
            case rel => exact ⟨j + 1, a, b, c', by omega, by go_num, by have := HAB.out; omega, by have := HAB.out; omega, HW3.out⟩
            case measure => simp [intOf]; omega
        · obtain ⟨D, hW, hC, hnb⟩ := HE.out
          have HW := Lib.hid hW
          have HC := Lib.hid hC
          have HNB := Lib.hid hnb
          have hTB := hW.tw
          clear hW hC hnb HE
          obtain ⟨q, hq, hqc⟩ := num_f x2 HX2.out k (by omega) (by omega) (k : Int) (Lib.hid rfl)
          have HCQ := Lib.hid hqc
          have HQ := Lib.hid hq
          clear hqc
          go_wp2_with (first
            | (go_at_call 8; (with_reducible refine (HCQ.out _).mono ?_); rintro e w2 ⟨rfl, rfl⟩))
          rename World => ws
          go_loopw [18, 19, 20] (fun x y z wt => ∃ i : Nat, i ≤ k ∧ z = .int .i64 (i : Int) ∧ TwoR wt ws.heap.size x y (itL L D (inL D.nb D.pr (q : Int) i)) (itL L D (stL D.pr (q : Int) i)) ∧ Below ws.heap.size ws wt) (fun _ _ z _ => k - (intOf z).toNat)
          case atStart => exact ⟨0, Nat.zero_le _, rfl, ⟨World.ownsRow_nil _ _ _ _, World.ownsRow_nil _ _ _ _, fun g hg => by cases hg⟩, Below.refl _ _⟩
          case round =>
            obtain ⟨i, hik, rfl, hT, hB⟩ := hrel
            have HT := Lib.hid hT
            have HBt := Lib.hid hB
            have HWt := Lib.hid (HW.out.below hB)
            have ii0 : (0 : Int) ≤ i := by omega
            clear hT hB
            by_cases hlt : i < k
            · have hin : i < D.nb := by rw [HNB.out]; exact hlt
              obtain ⟨m, hm⟩ : ∃ m, Hid (ownN L D i = m) := ⟨_, Lib.hid rfl⟩
              have hm2 : (items L D i).length = m := (items_len L D i).trans hm.out
              obtain ⟨kx, hkx⟩ : ∃ kx, (itL L D (inL D.nb D.pr (q : Int) i)).length = kx := ⟨_, rfl⟩
              obtain ⟨ky, hky⟩ : ∃ ky, (itL L D (stL D.pr (q : Int) i)).length = ky := ⟨_, rfl⟩
              have hb72 : m ≤ 72 ∧ kx ≤ 72 ∧ ky ≤ 72 := by
                have z1 := oks_len D.nt D.o1 i L.a.n
                have z2 := oks_len D.pt D.o2 i L.b.n
                have z3 := oks_len D.dt D.o3 i L.dn
                have z4 := HN.out
                have z5 := sumN_le L D _ (inL_nodup D.nb D.pr (q : Int) i)
                have z6 := sumN_le L D _ (stL_nodup D.pr (q : Int) i)
                rw [← itL_len] at z5 z6
                have z7 := hm.out
                unfold ownN at z7
                omega
              have hone : Hid (∀ u ∈ ownK L D i, u.oneCell' = true) := Lib.hid (by rw [← keyL_items]; exact keyL_one _)
              have HPk := Lib.hid HC.out.pk
              have hnn := HW.out.nn
              cases ht : (chL D.pr (i : Int)).contains (q : Int)
              · have e1 : inL D.nb D.pr (q : Int) (i + 1) = inL D.nb D.pr (q : Int) i := inL_no i (by rw [ht, Bool.and_false])
                have e2 : stL D.pr (q : Int) (i + 1) = stL D.pr (q : Int) i ++ [i] := stL_yes i ht
                have hTe : Hid (itL L D (stL D.pr (q : Int) (i + 1)) = itL L D (stL D.pr (q : Int) i) ++ items L D i) := Lib.hid (by rw [e2, itL_snoc])
                have hTe2 : Hid (itL L D (inL D.nb D.pr (q : Int) (i + 1)) = itL L D (inL D.nb D.pr (q : Int) i)) := Lib.hid (by rw [e1])
                have HT' : Hid ((chL D.pr (i : Int)).contains (q : Int) = false) := Lib.hid ht
                have hkl := hky
                clear e1 e2 ht
                go_wp2_with (first
                  | (go_at_call 12; (with_reducible refine (bwithin_is (i : Int) (q : Int) false (by omega) (by omega) hnn HPk HT' _ HWt.out.kk).mono ?_); rintro e w4 ⟨rfl, hb⟩; have HW4 := Lib.hid (HWt.out.below hb); have HT4 := Lib.hid (HT.out.below hb); have HB4 := Lib.hid (HBt.out.trans (hb.mono HBt.out.size)); clear hb)
                  | (go_at_call 13; (with_reducible refine (bowned_is i hin HC.out.ow _ HW4.out).mono ?_); rintro e w5 ⟨v5, rfl, hb, hr⟩; rw [hm.out] at hr; have HR5 := Lib.hid hr; have HT5 := Lib.hid (HT4.out.below hb); have HB5 := Lib.hid (HB4.out.trans (hb.mono HB4.out.size)); clear hr hb)
                  | (at_builtin; refine app_any rfl _ _ 40 rfl ws.heap.size 38 ik (.agg #[.int .i64 0, .int .i64 0, .int .i64 0, .int .i64 0, .int .u32 0]) 5 40 Tryd.underlying40 HI.out.1 HI.out.2.1 HI.out.2.2.1 HI.out.2.2.2 rfl (by decide) _ _ _ rfl (HT5.out.swap).rx _ m _ _ rfl HR5.out hone.out (by unfold maxLen; omega) (by omega) HB5.out.size ?_; intro v6 w6 h61 h62 h63; rw [hkl, ← keyL_items] at h61; have HT6 := Lib.hid ((HT5.out.swap).put (items L D i) ky m hkl hm2 h61 h62 h63); have HB6 : Hid (Below ws.heap.size ws w6) := Lib.hid (HB5.out.grown h62 HB5.out.size (fun g hg => ((HT5.out.swap).rx.lt g hg).1)); clear h61 h62 h63))
                go_roundw
                case rel => exact ⟨i + 1, by omega, by go_num, by rw [hTe.out, hTe2.out]; exact HT6.out.swap, HB6.out⟩
                case measure => simp [intOf]; omega
              · have e1 : inL D.nb D.pr (q : Int) (i + 1) = inL D.nb D.pr (q : Int) i ++ [i] := inL_yes i (by rw [ht, decide_eq_true hin]; rfl)
                have e2 : stL D.pr (q : Int) (i + 1) = stL D.pr (q : Int) i := stL_no i ht
                have hTe : Hid (itL L D (stL D.pr (q : Int) (i + 1)) = itL L D (stL D.pr (q : Int) i)) := Lib.hid (by rw [e2])
                have hTe2 : Hid (itL L D (inL D.nb D.pr (q : Int) (i + 1)) = itL L D (inL D.nb D.pr (q : Int) i) ++ items L D i) := Lib.hid (by rw [e1, itL_snoc])
                have HT' : Hid ((chL D.pr (i : Int)).contains (q : Int) = true) := Lib.hid ht
                have hkl := hkx
                clear e1 e2 ht
                go_wp2_with (first
                  | (go_at_call 12; (with_reducible refine (bwithin_is (i : Int) (q : Int) true (by omega) (by omega) hnn HPk HT' _ HWt.out.kk).mono ?_); rintro e w4 ⟨rfl, hb⟩; have HW4 := Lib.hid (HWt.out.below hb); have HT4 := Lib.hid (HT.out.below hb); have HB4 := Lib.hid (HBt.out.trans (hb.mono HBt.out.size)); clear hb)
                  | (go_at_call 13; (with_reducible refine (bowned_is i hin HC.out.ow _ HW4.out).mono ?_); rintro e w5 ⟨v5, rfl, hb, hr⟩; rw [hm.out] at hr; have HR5 := Lib.hid hr; have HT5 := Lib.hid (HT4.out.below hb); have HB5 := Lib.hid (HB4.out.trans (hb.mono HB4.out.size)); clear hr hb)
                  | (at_builtin; refine app_any rfl _ _ 40 rfl ws.heap.size 38 ik (.agg #[.int .i64 0, .int .i64 0, .int .i64 0, .int .i64 0, .int .u32 0]) 5 40 Tryd.underlying40 HI.out.1 HI.out.2.1 HI.out.2.2.1 HI.out.2.2.2 rfl (by decide) _ _ _ rfl (HT5.out).rx _ m _ _ rfl HR5.out hone.out (by unfold maxLen; omega) (by omega) HB5.out.size ?_; intro v6 w6 h61 h62 h63; rw [hkl, ← keyL_items] at h61; have HT6 := Lib.hid ((HT5.out).put (items L D i) kx m hkl hm2 h61 h62 h63); have HB6 : Hid (Below ws.heap.size ws w6) := Lib.hid (HB5.out.grown h62 HB5.out.size (fun g hg => ((HT5.out).rx.lt g hg).1)); clear h61 h62 h63))
                go_roundw
                case rel => exact ⟨i + 1, by omega, by go_num, by rw [hTe.out, hTe2.out]; exact HT6.out, HB6.out⟩
                case measure => simp [intOf]; omega
            · have hie : i = k := by omega
              obtain ⟨il, hil⟩ : ∃ il, Hid (inL D.nb D.pr (q : Int) k = il) := ⟨_, Lib.hid rfl⟩
              obtain ⟨sl, hsl⟩ : ∃ sl, Hid (stL D.pr (q : Int) k = sl) := ⟨_, Lib.hid rfl⟩
              obtain ⟨K9, hK⟩ : ∃ K9, Hid (sumN L D il = K9) := ⟨_, Lib.hid rfl⟩
              obtain ⟨M9, hM⟩ : ∃ M9, Hid (sumN L D sl = M9) := ⟨_, Lib.hid rfl⟩
              have hT2 := HT.out
              rw [hie, hil.out, hsl.out] at hT2
              have HIN : Hid (il.Nodup) := Lib.hid (by rw [← hil.out]; exact inL_nodup _ _ _ _)
              have HSN : Hid (sl.Nodup) := Lib.hid (by rw [← hsl.out]; exact stL_nodup _ _ _)
              have HSM : Hid (∀ q', q' ∈ sl → q' < k ∧ (chL D.pr (q' : Int)).contains (q : Int) = false ∧ q' ∉ il) := Lib.hid (by
                intro q' hq'
                rw [← hsl.out] at hq'
                have h1 := stL_mem.1 hq'
                refine ⟨h1.1, h1.2, fun h2 => ?_⟩
                rw [← hil.out] at h2
                have h3 := (inL_mem.1 h2).2.2
                rw [h1.2] at h3
                cases h3)
              have HKM9 : Hid (K9 ≤ 72 ∧ M9 ≤ 72) := Lib.hid (by
                have z4 := HN.out
                have z5 := sumN_le L D _ HIN.out
                have z6 := sumN_le L D _ HSN.out
                rw [hK.out] at z5
                rw [hM.out] at z6
                omega)
              have HIL : Hid (inL D.nb D.pr (q : Int) L.n = il) := Lib.hid ((inL_full L.n HW.out.nn).trans (by rw [← hil.out, HNB.out]))
              have HQN : Hid (q < D.nb) := Lib.hid (by rw [HNB.out]; exact HQ.out)
              obtain ⟨ax, cx, hx, hkx⟩ := row_keys ((itL_len L D il).trans hK.out) hT2.rx hTB
              obtain ⟨ay, cy, hy, hky⟩ := row_keys ((itL_len L D sl).trans hM.out) hT2.ry hTB
              have HKx := Lib.hid hkx
              have HKy := Lib.hid hky
              clear HT hT2 hkx hky hie
              subst hx
              subst hy
              obtain ⟨xa, hxa⟩ : ∃ xa, Hid (cntB (freeB D.nt D.nv) L.a.n = xa) := ⟨_, Lib.hid rfl⟩
              obtain ⟨xb, hxb⟩ : ∃ xb, Hid (cntB (freeB D.pt D.pv) L.b.n = xb) := ⟨_, Lib.hid rfl⟩
              obtain ⟨xc, hxc⟩ : ∃ xc, Hid (cntB (freeB D.dt D.dv) L.dn = xc) := ⟨_, Lib.hid rfl⟩
              obtain ⟨ya, hya⟩ : ∃ ya, Hid (cntB (freeB (afterE L D q K9 il).nt (afterE L D q K9 il).nv) L.a.n = ya) := ⟨_, Lib.hid rfl⟩
              obtain ⟨yb, hyb⟩ : ∃ yb, Hid (cntB (freeB (afterE L D q K9 il).pt (afterE L D q K9 il).pv) L.b.n = yb) := ⟨_, Lib.hid rfl⟩
              obtain ⟨yc, hyc⟩ : ∃ yc, Hid (cntB (freeB (afterE L D q K9 il).dt (afterE L D q K9 il).dv) L.dn = yc) := ⟨_, Lib.hid rfl⟩
              have HSum : Hid (ya + yb + yc = xa + xb + xc + K9) := Lib.hid (by
                have h := HC.out.left il HIN.out q K9
                rw [hya.out, hyb.out, hyc.out, hxa.out, hxb.out, hxc.out, hK.out] at h
                exact h)
              have HLe : Hid (xa ≤ 32 ∧ xb ≤ 32 ∧ xc ≤ 8) := Lib.hid (by
                have z1 := cntB_le (freeB D.nt D.nv) L.a.n
                have z2 := cntB_le (freeB D.pt D.pv) L.b.n
                have z3 := cntB_le (freeB D.dt D.dv) L.dn
                have z4 := HN.out
                rw [hxa.out] at z1
                rw [hxb.out] at z2
                rw [hxc.out] at z3
                omega)
              have v1 : IntKind.i64.wrap ((xa : Int) + (xb : Int)) = (xa : Int) + (xb : Int) := by have := HLe.out; rw [IntKind.wrap_i64]; omega
              have v2 : IntKind.i64.wrap ((xa : Int) + (xb : Int) + (xc : Int)) = (xa : Int) + (xb : Int) + (xc : Int) := by have := HLe.out; rw [IntKind.wrap_i64]; omega
              have C1 : Hid (∀ W, KL wr W L → Calls Tryd.prog 14 #[.pointer (some ⟨L.a.p, 0, none⟩)] W fun e w' => e = .returned (.int .i64 (xa : Int)) ∧ Below W.heap.size W w') := Lib.hid (fun W h => aleft_at (xa : Int) W (HWt.out.below h.bel).mm.sv.st.nd.ar (Lib.hid (by rw [hxa.out])))
              have C2 : Hid (∀ W, KL wr W L → Calls Tryd.prog 14 #[.pointer (some ⟨L.b.p, 0, none⟩)] W fun e w' => e = .returned (.int .i64 (xb : Int)) ∧ Below W.heap.size W w') := Lib.hid (fun W h => aleft_at (xb : Int) W (HWt.out.below h.bel).mm.sv.st.pg.ar (Lib.hid (by rw [hxb.out])))
              have C3 : Hid (∀ W, KL wr W L → Calls Tryd.prog 14 #[.pointer (some ⟨L.dp, 0, none⟩)] W fun e w' => e = .returned (.int .i64 (xc : Int)) ∧ Below W.heap.size W w') := Lib.hid (fun W h => aleft_at (xc : Int) W (HWt.out.below h.bel).dd.pl.ar (Lib.hid (by rw [hxc.out])))
              have HAb : Hid (KL wr wr.drew L ∧ (World.cell? wr.drew ⟨L.mb, 0, none⟩ = some (.pointer (some ⟨L.S, 0, none⟩)) ∧ World.cell? wr.drew ⟨L.S, 0, none⟩ = some (.pointer (some ⟨L.a.P, 0, none⟩)) ∧ World.cell? wr.drew ⟨L.a.P, 0, none⟩ = some (.pointer (some ⟨L.a.p, 0, none⟩)) ∧ World.cell? wr.drew ⟨L.S, 1, none⟩ = some (.pointer (some ⟨L.b.P, 0, none⟩)) ∧ World.cell? wr.drew ⟨L.b.P, 0, none⟩ = some (.pointer (some ⟨L.b.p, 0, none⟩)) ∧ World.cell? wr.drew ⟨L.dP, 0, none⟩ = some (.pointer (some ⟨L.dp, 0, none⟩)) ∧ World.cell? wr.drew ⟨L.P, 0, none⟩ = some (.pointer (some ⟨L.p, 0, none⟩)))) := Lib.hid (((HWt.out.be.kl (Below.refl _ _)).below (Below.refl _ _).drew).sk)
              go_upto_region 36 with fail
              go_cut [21] (fun v wx => v = .int .i64 ((xa : Int) + (xb : Int) + (xc : Int)) ∧ KL wr wx L)
              case first =>
                as_aux_lemma =>
                  go_region_held3 (fun w' => (KL wr w' L ∧ (World.cell? w' ⟨L.mb, 0, none⟩ = some (.pointer (some ⟨L.S, 0, none⟩)) ∧ World.cell? w' ⟨L.S, 0, none⟩ = some (.pointer (some ⟨L.a.P, 0, none⟩)) ∧ World.cell? w' ⟨L.a.P, 0, none⟩ = some (.pointer (some ⟨L.a.p, 0, none⟩)) ∧ World.cell? w' ⟨L.S, 1, none⟩ = some (.pointer (some ⟨L.b.P, 0, none⟩)) ∧ World.cell? w' ⟨L.b.P, 0, none⟩ = some (.pointer (some ⟨L.b.p, 0, none⟩)) ∧ World.cell? w' ⟨L.dP, 0, none⟩ = some (.pointer (some ⟨L.dp, 0, none⟩)) ∧ World.cell? w' ⟨L.P, 0, none⟩ = some (.pointer (some ⟨L.p, 0, none⟩))))) (first | exact HAb.out | exact sk_below (by assumption) hb) (first
                    | (go_at_call 14; (with_reducible refine (C1.out _ (And.left (by assumption))).mono ?_); rintro e w' ⟨rfl, hb⟩)
                    | (go_at_call 14; (with_reducible refine (C2.out _ (And.left (by assumption))).mono ?_); rintro e w' ⟨rfl, hb⟩)
                    | (go_at_call 14; (with_reducible refine (C3.out _ (And.left (by assumption))).mono ?_); rintro e w' ⟨rfl, hb⟩))
                  go_wp2_with fail
                  go_meet
                  refine ⟨rfl, ?_⟩
                  apply And.left
                  assumption
              case rest =>
                obtain ⟨rfl, hk⟩ := hcut
                have HWc := Lib.hid (HWt.out.below hk.bel)
                have HUc := Lib.hid (UpT.below (T := L.T) hk.bel)
                clear hk HAb C1 C2 C3 v1 v2
                obtain ⟨ur, hur⟩ : ∃ ur, Hid (D.us 0 = ur) := ⟨_, Lib.hid rfl⟩
                go_upto_region 39 with (first
                  | (go_at_call 15; (with_reducible refine (bused_is 0 (0 : Int) ur (Lib.hid rfl) HC.out.n1 HWc.out.nn hur _ HWc.out.kk).mono ?_); rintro e w4 ⟨rfl, rfl⟩)
                  | (go_at_call 16; (with_reducible refine (bend_is (q : Int) q (Lib.hid rfl) HQN.out HC.out.ow (Lib.hid HC.out.ver) il HIL K9 hK (Nat.le_trans HKM9.out.1 (by decide)) (Lib.hid HC.out.wide) _ HWc.out).mono ?_); rintro e w5 ⟨rfl, hE, hu⟩; have HE5 : Hid (BE w1 w5 L (afterE L D q K9 il) (thE D.nb il) (vrE il)) := Lib.hid hE; have HU5 := Lib.hid (HUc.out.trans hu); clear hE hu))
                have HUl := Lib.hid (show 0 ≤ ur ∧ ur ≤ 100 by have h := HC.out.u0; have := HC.out.ab; rw [hur.out] at h; omega)
                have hkk : ((K9 : Int) != (K9 : Int)) = false := by simp
                have v3 : IntKind.i64.wrap ((ya : Int) + (yb : Int)) = (ya : Int) + (yb : Int) := by have := HLe.out; have := HSum.out; have := HKM9.out; rw [IntKind.wrap_i64]; omega
                have v4 : IntKind.i64.wrap ((ya : Int) + (yb : Int) + (yc : Int)) = (ya : Int) + (yb : Int) + (yc : Int) := by have := HLe.out; have := HSum.out; have := HKM9.out; rw [IntKind.wrap_i64]; omega
                have v5 : IntKind.i64.wrap ((xa : Int) + (xb : Int) + (xc : Int) + (K9 : Int)) = (xa : Int) + (xb : Int) + (xc : Int) + (K9 : Int) := by have := HLe.out; have := HKM9.out; rw [IntKind.wrap_i64]; omega
                have hne : (((ya : Int) + (yb : Int) + (yc : Int)) != ((xa : Int) + (xb : Int) + (xc : Int) + (K9 : Int))) = false := by
                  have e : (ya : Int) + (yb : Int) + (yc : Int) = (xa : Int) + (xb : Int) + (xc : Int) + (K9 : Int) := by have := HSum.out; omega
                  rw [e]; simp
                have v6 : IntKind.i64.wrap (ur - (K9 : Int)) = ur - (K9 : Int) := by have := HUl.out; have := HKM9.out; rw [IntKind.wrap_i64]; omega
                have hvv : ((ur - (K9 : Int)) != (ur - (K9 : Int))) = false := by simp
                have hqn : q < L.n := Nat.lt_of_lt_of_le HQN.out HW.out.nn
                have HThE : Hid (thE D.nb il q = false) := Lib.hid (if_pos (by rw [← HIL.out]; exact HC.out.self q L.n HQN.out HW.out.nn))
                have C1 : Hid (∀ W, KL w5 W L → Calls Tryd.prog 14 #[.pointer (some ⟨L.a.p, 0, none⟩)] W fun e w' => e = .returned (.int .i64 (ya : Int)) ∧ Below W.heap.size W w') := Lib.hid (fun W h => aleft_at (ya : Int) W (HE5.out.below h.bel).mm.sv.st.nd.ar (Lib.hid (by rw [hya.out])))
                have C2 : Hid (∀ W, KL w5 W L → Calls Tryd.prog 14 #[.pointer (some ⟨L.b.p, 0, none⟩)] W fun e w' => e = .returned (.int .i64 (yb : Int)) ∧ Below W.heap.size W w') := Lib.hid (fun W h => aleft_at (yb : Int) W (HE5.out.below h.bel).mm.sv.st.pg.ar (Lib.hid (by rw [hyb.out])))
                have C3 : Hid (∀ W, KL w5 W L → Calls Tryd.prog 14 #[.pointer (some ⟨L.dp, 0, none⟩)] W fun e w' => e = .returned (.int .i64 (yc : Int)) ∧ Below W.heap.size W w') := Lib.hid (fun W h => aleft_at (yc : Int) W (HE5.out.below h.bel).dd.pl.ar (Lib.hid (by rw [hyc.out])))
                have C4 : Hid (∀ W, KL w5 W L → Calls Tryd.prog 17 #[.pointer (some ⟨L.p, 0, none⟩), .int .i64 (q : Int)] W fun e w' => e = .returned (.bool false) ∧ Below W.heap.size W w') := Lib.hid (fun W h => (athere_in q hqn false HThE W (HE5.out.below h.bel).kk.ar).mono fun e w' hh => ⟨hh.1, by rw [← hh.2]; exact Below.refl _ _⟩)
                have C5 : Hid (0 < q → ∀ W, KL w5 W L → Calls Tryd.prog 15 #[.pointer (some ⟨L.P, 0, none⟩), .int .i64 0] W fun e w' => e = .returned (.int .i64 (ur - (K9 : Int))) ∧ Below W.heap.size W w') := Lib.hid (fun h0 W h => (ebused_is 0 (0 : Int) (ur - (K9 : Int)) (Lib.hid rfl) (by omega) (Lib.hid ((if_neg (by rw [← HIL.out]; exact HC.out.top q L.n h0)).trans (thN_at HC.out.n1))) (Lib.hid (by rw [HC.out.root q K9 HQN.out h0 il, hur.out])) W (HE5.out.below h.bel).kk).mono fun e w' hh => ⟨hh.1, by rw [← hh.2]; exact Below.refl _ _⟩)
                have HAb : Hid (KL w5 w5.drew L ∧ (World.cell? w5.drew ⟨L.mb, 0, none⟩ = some (.pointer (some ⟨L.S, 0, none⟩)) ∧ World.cell? w5.drew ⟨L.S, 0, none⟩ = some (.pointer (some ⟨L.a.P, 0, none⟩)) ∧ World.cell? w5.drew ⟨L.a.P, 0, none⟩ = some (.pointer (some ⟨L.a.p, 0, none⟩)) ∧ World.cell? w5.drew ⟨L.S, 1, none⟩ = some (.pointer (some ⟨L.b.P, 0, none⟩)) ∧ World.cell? w5.drew ⟨L.b.P, 0, none⟩ = some (.pointer (some ⟨L.b.p, 0, none⟩)) ∧ World.cell? w5.drew ⟨L.dP, 0, none⟩ = some (.pointer (some ⟨L.dp, 0, none⟩)) ∧ World.cell? w5.drew ⟨L.P, 0, none⟩ = some (.pointer (some ⟨L.p, 0, none⟩)))) := Lib.hid (((HE5.out.kl (Below.refl _ _)).below (Below.refl _ _).drew).sk)
                go_cut [230] (fun v wx => v = .bool false ∧ KL w5 wx L)
                case first =>
                  by_cases h0 : 0 < q
                  · have dq : decide ((0 : Int) < (q : Int)) = true := decide_eq_true (by omega)
                    have dq2 : decide (0 < q) = true := decide_eq_true h0
                    have C6 := Lib.hid (C5.out h0)
                    clear h0
                    as_aux_lemma =>
                      go_region_held3 (fun w' => (KL w5 w' L ∧ (World.cell? w' ⟨L.mb, 0, none⟩ = some (.pointer (some ⟨L.S, 0, none⟩)) ∧ World.cell? w' ⟨L.S, 0, none⟩ = some (.pointer (some ⟨L.a.P, 0, none⟩)) ∧ World.cell? w' ⟨L.a.P, 0, none⟩ = some (.pointer (some ⟨L.a.p, 0, none⟩)) ∧ World.cell? w' ⟨L.S, 1, none⟩ = some (.pointer (some ⟨L.b.P, 0, none⟩)) ∧ World.cell? w' ⟨L.b.P, 0, none⟩ = some (.pointer (some ⟨L.b.p, 0, none⟩)) ∧ World.cell? w' ⟨L.dP, 0, none⟩ = some (.pointer (some ⟨L.dp, 0, none⟩)) ∧ World.cell? w' ⟨L.P, 0, none⟩ = some (.pointer (some ⟨L.p, 0, none⟩))))) (first | exact HAb.out | exact sk_below (by assumption) hb) (first
                        | (go_at_call 14; (with_reducible refine (C1.out _ (And.left (by assumption))).mono ?_); rintro e w' ⟨rfl, hb⟩)
                        | (go_at_call 14; (with_reducible refine (C2.out _ (And.left (by assumption))).mono ?_); rintro e w' ⟨rfl, hb⟩)
                        | (go_at_call 14; (with_reducible refine (C3.out _ (And.left (by assumption))).mono ?_); rintro e w' ⟨rfl, hb⟩)
                        | (go_at_call 17; (with_reducible refine (C4.out _ (And.left (by assumption))).mono ?_); rintro e w' ⟨rfl, hb⟩)
                        | (go_at_call 15; (with_reducible refine (C6.out _ (And.left (by assumption))).mono ?_); rintro e w' ⟨rfl, hb⟩))
                      go_wp2_with fail
                      go_meet
                      refine ⟨rfl, ?_⟩
                      apply And.left
                      assumption
                  · have dq : decide ((0 : Int) < (q : Int)) = false := decide_eq_false (by omega)
                    have dq2 : decide (0 < q) = false := decide_eq_false h0
                    clear h0
                    as_aux_lemma =>
                      refine wp_region_noPanic ?_
                      refine wp_region_held_drew (S := fun w' => (KL w5 w' L ∧ (World.cell? w' ⟨L.mb, 0, none⟩ = some (.pointer (some ⟨L.S, 0, none⟩)) ∧ World.cell? w' ⟨L.S, 0, none⟩ = some (.pointer (some ⟨L.a.P, 0, none⟩)) ∧ World.cell? w' ⟨L.a.P, 0, none⟩ = some (.pointer (some ⟨L.a.p, 0, none⟩)) ∧ World.cell? w' ⟨L.S, 1, none⟩ = some (.pointer (some ⟨L.b.P, 0, none⟩)) ∧ World.cell? w' ⟨L.b.P, 0, none⟩ = some (.pointer (some ⟨L.b.p, 0, none⟩)) ∧ World.cell? w' ⟨L.dP, 0, none⟩ = some (.pointer (some ⟨L.dp, 0, none⟩)) ∧ World.cell? w' ⟨L.P, 0, none⟩ = some (.pointer (some ⟨L.p, 0, none⟩))))) (by kernel_rfl) HAb.out (fun hHeld => ?_)
                      refine wpAnyH_take (i := 0) (v := ?_) (by rfl) (by kernel_rfl) (by kernel_rfl) (by kernel_rfl) (fun _ _ _ h => h) (Or.inl ⟨by kernel_rfl, ?_⟩) (by assumption) ?_; rotate_left 1; (focus (intro w hSw; (try dsimp only at hSw); simp only [List.getElem_toArray, List.getElem_cons_succ, List.getElem_cons_zero]; all_goals (try go_simp); all_goals (try with_reducible rfl); all_goals (try rfl))); (try simp only [Act.put, List.getElem_toArray, List.getElem_cons_succ, List.getElem_cons_zero, List.setIfInBounds_toArray, List.set_cons_zero, List.set_cons_succ])
                      refine wpAnyH_take (i := 1) (v := ?_) (by rfl) (by kernel_rfl) (by kernel_rfl) (by kernel_rfl) (fun _ _ _ h => h) (Or.inl ⟨by kernel_rfl, ?_⟩) (by assumption) ?_; rotate_left 1; (focus (intro w hSw; (try dsimp only at hSw); simp only [List.getElem_toArray, List.getElem_cons_succ, List.getElem_cons_zero]; all_goals (try go_simp); all_goals (try with_reducible rfl); all_goals (try rfl))); (try simp only [Act.put, List.getElem_toArray, List.getElem_cons_succ, List.getElem_cons_zero, List.setIfInBounds_toArray, List.set_cons_zero, List.set_cons_succ])
                      refine wpAnyH_take (i := 2) (v := ?_) (by rfl) (by kernel_rfl) (by kernel_rfl) (by kernel_rfl) (fun _ _ _ h => h) (Or.inl ⟨by kernel_rfl, ?_⟩) (by assumption) ?_; rotate_left 1; (focus (intro w hSw; (try dsimp only at hSw); simp only [List.getElem_toArray, List.getElem_cons_succ, List.getElem_cons_zero]; all_goals (try go_simp); all_goals (try with_reducible rfl); all_goals (try rfl))); (try simp only [Act.put, List.getElem_toArray, List.getElem_cons_succ, List.getElem_cons_zero, List.setIfInBounds_toArray, List.set_cons_zero, List.set_cons_succ])
                      refine wpAnyH_take (i := 3) (v := ?_) (by rfl) (by kernel_rfl) (by kernel_rfl) (by kernel_rfl) (fun _ _ _ h => h) (Or.inl ⟨by kernel_rfl, ?_⟩) (by assumption) ?_; rotate_left 1; (focus (intro w hSw; (try dsimp only at hSw); simp only [List.getElem_toArray, List.getElem_cons_succ, List.getElem_cons_zero]; all_goals (try go_simp); all_goals (try with_reducible rfl); all_goals (try rfl))); (try simp only [Act.put, List.getElem_toArray, List.getElem_cons_succ, List.getElem_cons_zero, List.setIfInBounds_toArray, List.set_cons_zero, List.set_cons_succ])
                      refine wpAnyH_take (i := 4) (v := ?_) (by rfl) (by kernel_rfl) (by kernel_rfl) (by kernel_rfl) (fun _ _ _ h => h) (Or.inl ⟨by kernel_rfl, ?_⟩) (by assumption) ?_; rotate_left 1; (focus (intro w hSw; (try dsimp only at hSw); simp only [List.getElem_toArray, List.getElem_cons_succ, List.getElem_cons_zero]; all_goals (try go_simp); all_goals (try with_reducible rfl); all_goals (try rfl))); (try simp only [Act.put, List.getElem_toArray, List.getElem_cons_succ, List.getElem_cons_zero, List.setIfInBounds_toArray, List.set_cons_zero, List.set_cons_succ])
                      refine wpAnyH_take (i := 5) (v := ?_) (by rfl) (by kernel_rfl) (by kernel_rfl) (by kernel_rfl) (fun _ _ _ h => h) (Or.inl ⟨by kernel_rfl, ?_⟩) (by assumption) ?_; rotate_left 1; (focus (intro w hSw; (try dsimp only at hSw); simp only [List.getElem_toArray, List.getElem_cons_succ, List.getElem_cons_zero]; all_goals (try go_simp); all_goals (try with_reducible rfl); all_goals (try rfl))); (try simp only [Act.put, List.getElem_toArray, List.getElem_cons_succ, List.getElem_cons_zero, List.setIfInBounds_toArray, List.set_cons_zero, List.set_cons_succ])
                      refine wpAnyH_take (i := 6) (v := ?_) (by rfl) (by kernel_rfl) (by kernel_rfl) (by kernel_rfl) (fun _ _ _ h => h) (Or.inl ⟨by kernel_rfl, ?_⟩) (by assumption) ?_; rotate_left 1; (focus (intro w hSw; (try dsimp only at hSw); simp only [List.getElem_toArray, List.getElem_cons_succ, List.getElem_cons_zero]; all_goals (try go_simp); all_goals (try with_reducible rfl); all_goals (try rfl))); (try simp only [Act.put, List.getElem_toArray, List.getElem_cons_succ, List.getElem_cons_zero, List.setIfInBounds_toArray, List.set_cons_zero, List.set_cons_succ])
                      refine wpAnyH_take (i := 7) (v := ?_) (by rfl) (by kernel_rfl) (by kernel_rfl) (by kernel_rfl) (fun _ _ _ h => h) (Or.inl ⟨by kernel_rfl, ?_⟩) (by assumption) ?_; rotate_left 1; (focus (intro w hSw; (try dsimp only at hSw); simp only [List.getElem_toArray, List.getElem_cons_succ, List.getElem_cons_zero]; all_goals (try go_simp); all_goals (try with_reducible rfl); all_goals (try rfl))); (try simp only [Act.put, List.getElem_toArray, List.getElem_cons_succ, List.getElem_cons_zero, List.setIfInBounds_toArray, List.set_cons_zero, List.set_cons_succ])
                      refine wpAnyH_take (i := 8) (v := ?_) (by rfl) (by kernel_rfl) (by kernel_rfl) (by kernel_rfl) (fun _ _ _ h => h) (Or.inl ⟨by kernel_rfl, ?_⟩) (by assumption) ?_; rotate_left 1; (focus (intro w hSw; (try dsimp only at hSw); simp only [List.getElem_toArray, List.getElem_cons_succ, List.getElem_cons_zero]; all_goals (try go_simp); all_goals (try with_reducible rfl); all_goals (try rfl))); (try simp only [Act.put, List.getElem_toArray, List.getElem_cons_succ, List.getElem_cons_zero, List.setIfInBounds_toArray, List.set_cons_zero, List.set_cons_succ])
                      refine wpAnyH_take (i := 9) (v := ?_) (by rfl) (by kernel_rfl) (by kernel_rfl) (by kernel_rfl) (fun _ _ _ h => h) (Or.inl ⟨by kernel_rfl, ?_⟩) (by assumption) ?_; rotate_left 1; (focus (intro w hSw; (try dsimp only at hSw); simp only [List.getElem_toArray, List.getElem_cons_succ, List.getElem_cons_zero]; all_goals (try go_simp); all_goals (try with_reducible rfl); all_goals (try rfl))); (try simp only [Act.put, List.getElem_toArray, List.getElem_cons_succ, List.getElem_cons_zero, List.setIfInBounds_toArray, List.set_cons_zero, List.set_cons_succ])
                      refine wpAnyH_take (i := 10) (v := ?_) (by rfl) (by kernel_rfl) (by kernel_rfl) (by kernel_rfl) (fun _ _ _ h => h) (Or.inl ⟨by kernel_rfl, ?_⟩) (by assumption) ?_; rotate_left 1; (focus (intro w hSw; (try dsimp only at hSw); simp only [List.getElem_toArray, List.getElem_cons_succ, List.getElem_cons_zero]; all_goals (try go_simp); all_goals (try with_reducible rfl); all_goals (try rfl))); (try simp only [Act.put, List.getElem_toArray, List.getElem_cons_succ, List.getElem_cons_zero, List.setIfInBounds_toArray, List.set_cons_zero, List.set_cons_succ])
                      refine wpAnyH_take (i := 11) (v := ?_) (by rfl) (by kernel_rfl) (by kernel_rfl) (by kernel_rfl) (fun _ _ _ h => h) (Or.inl ⟨by kernel_rfl, ?_⟩) (by assumption) ?_; rotate_left 1; (focus (intro w hSw; (try dsimp only at hSw); simp only [List.getElem_toArray, List.getElem_cons_succ, List.getElem_cons_zero]; all_goals (try go_simp); all_goals (try with_reducible rfl); all_goals (try rfl))); (try simp only [Act.put, List.getElem_toArray, List.getElem_cons_succ, List.getElem_cons_zero, List.setIfInBounds_toArray, List.set_cons_zero, List.set_cons_succ])
                      refine wpAnyH_take (i := 12) (v := ?_) (by rfl) (by kernel_rfl) (by kernel_rfl) (by kernel_rfl) (fun _ _ _ h => h) (Or.inl ⟨by kernel_rfl, ?_⟩) (by assumption) ?_; rotate_left 1; (focus (intro w hSw; (try dsimp only at hSw); simp only [List.getElem_toArray, List.getElem_cons_succ, List.getElem_cons_zero]; all_goals (try go_simp); all_goals (try with_reducible rfl); all_goals (try rfl))); (try simp only [Act.put, List.getElem_toArray, List.getElem_cons_succ, List.getElem_cons_zero, List.setIfInBounds_toArray, List.set_cons_zero, List.set_cons_succ])
                      refine wpAnyH_take (i := 13) (v := ?_) (by rfl) (by kernel_rfl) (by kernel_rfl) (by kernel_rfl) (fun _ _ _ h => h) (Or.inl ⟨by kernel_rfl, ?_⟩) (by assumption) ?_; rotate_left 1; (focus (intro w hSw; (try dsimp only at hSw); simp only [List.getElem_toArray, List.getElem_cons_succ, List.getElem_cons_zero]; all_goals (try go_simp); all_goals (try with_reducible rfl); all_goals (try rfl))); (try simp only [Act.put, List.getElem_toArray, List.getElem_cons_succ, List.getElem_cons_zero, List.setIfInBounds_toArray, List.set_cons_zero, List.set_cons_succ])
                      refine wpAnyH_take (i := 14) (v := ?_) (by rfl) (by kernel_rfl) (by kernel_rfl) (by kernel_rfl) (fun _ _ _ h => h) (Or.inl ⟨by kernel_rfl, ?_⟩) (by assumption) ?_; rotate_left 1; (focus (intro w hSw; (try dsimp only at hSw); simp only [List.getElem_toArray, List.getElem_cons_succ, List.getElem_cons_zero]; all_goals (try go_simp); all_goals (try with_reducible rfl); all_goals (try rfl))); (try simp only [Act.put, List.getElem_toArray, List.getElem_cons_succ, List.getElem_cons_zero, List.setIfInBounds_toArray, List.set_cons_zero, List.set_cons_succ])
                      refine wpAnyH_take (i := 15) (v := ?_) (by rfl) (by kernel_rfl) (by kernel_rfl) (by kernel_rfl) (fun _ _ _ h => h) (Or.inl ⟨by kernel_rfl, ?_⟩) (by assumption) ?_; rotate_left 1; (focus (intro w hSw; (try dsimp only at hSw); simp only [List.getElem_toArray, List.getElem_cons_succ, List.getElem_cons_zero]; all_goals (try go_simp); all_goals (try with_reducible rfl); all_goals (try rfl))); (try simp only [Act.put, List.getElem_toArray, List.getElem_cons_succ, List.getElem_cons_zero, List.setIfInBounds_toArray, List.set_cons_zero, List.set_cons_succ])
                      refine wpAnyH_take (i := 16) (v := ?_) (by rfl) (by kernel_rfl) (by kernel_rfl) (by kernel_rfl) (fun _ _ _ h => h) (Or.inl ⟨by kernel_rfl, ?_⟩) (by assumption) ?_; rotate_left 1; (focus (intro w hSw; (try dsimp only at hSw); simp only [List.getElem_toArray, List.getElem_cons_succ, List.getElem_cons_zero]; all_goals (try go_simp); all_goals (try with_reducible rfl); all_goals (try rfl))); (try simp only [Act.put, List.getElem_toArray, List.getElem_cons_succ, List.getElem_cons_zero, List.setIfInBounds_toArray, List.set_cons_zero, List.set_cons_succ])
                      refine wpAnyH_take (i := 17) (v := ?_) (by rfl) (by kernel_rfl) (by kernel_rfl) (by kernel_rfl) (fun _ _ _ h => h) (Or.inl ⟨by kernel_rfl, ?_⟩) (by assumption) ?_; rotate_left 1; (focus (intro w hSw; (try dsimp only at hSw); simp only [List.getElem_toArray, List.getElem_cons_succ, List.getElem_cons_zero]; all_goals (try go_simp); all_goals (try with_reducible rfl); all_goals (try rfl))); (try simp only [Act.put, List.getElem_toArray, List.getElem_cons_succ, List.getElem_cons_zero, List.setIfInBounds_toArray, List.set_cons_zero, List.set_cons_succ])
                      refine wpAnyH_take (i := 18) (v := ?_) (by rfl) (by kernel_rfl) (by kernel_rfl) (by kernel_rfl) (fun _ _ _ h => h) (Or.inl ⟨by kernel_rfl, ?_⟩) (by assumption) ?_; rotate_left 1; (focus (intro w hSw; (try dsimp only at hSw); simp only [List.getElem_toArray, List.getElem_cons_succ, List.getElem_cons_zero]; all_goals (try go_simp); all_goals (try with_reducible rfl); all_goals (try rfl))); (try simp only [Act.put, List.getElem_toArray, List.getElem_cons_succ, List.getElem_cons_zero, List.setIfInBounds_toArray, List.set_cons_zero, List.set_cons_succ])
                      refine wpAnyH_take (i := 20) (v := ?_) (by rfl) (by kernel_rfl) (by kernel_rfl) (by kernel_rfl) (fun _ _ _ h => h) (Or.inl ⟨by kernel_rfl, ?_⟩) (by assumption) ?_; rotate_left 1; (focus (intro w hSw; (try dsimp only at hSw); simp only [List.getElem_toArray, List.getElem_cons_succ, List.getElem_cons_zero]; all_goals (try go_simp); all_goals (try with_reducible rfl); all_goals (try rfl))); (try simp only [Act.put, List.getElem_toArray, List.getElem_cons_succ, List.getElem_cons_zero, List.setIfInBounds_toArray, List.set_cons_zero, List.set_cons_succ])
                      refine wpAnyH_take (i := 21) (v := ?_) (by rfl) (by kernel_rfl) (by kernel_rfl) (by kernel_rfl) (fun _ _ _ h => h) (Or.inl ⟨by kernel_rfl, ?_⟩) (by assumption) ?_; rotate_left 1; (focus (intro w hSw; (try dsimp only at hSw); simp only [List.getElem_toArray, List.getElem_cons_succ, List.getElem_cons_zero]; all_goals (try go_simp); all_goals (try with_reducible rfl); all_goals (try rfl))); (try simp only [Act.put, List.getElem_toArray, List.getElem_cons_succ, List.getElem_cons_zero, List.setIfInBounds_toArray, List.set_cons_zero, List.set_cons_succ])
                      refine wpAnyH_take (i := 22) (v := ?_) (by rfl) (by kernel_rfl) (by kernel_rfl) (by kernel_rfl) (fun _ _ _ h => h) (Or.inl ⟨by kernel_rfl, ?_⟩) (by assumption) ?_; rotate_left 1; (focus (intro w hSw; (try dsimp only at hSw); simp only [List.getElem_toArray, List.getElem_cons_succ, List.getElem_cons_zero]; all_goals (try go_simp); all_goals (try with_reducible rfl); all_goals (try rfl))); (try simp only [Act.put, List.getElem_toArray, List.getElem_cons_succ, List.getElem_cons_zero, List.setIfInBounds_toArray, List.set_cons_zero, List.set_cons_succ])
                      refine wpAnyH_take (i := 23) (v := ?_) (by rfl) (by kernel_rfl) (by kernel_rfl) (by kernel_rfl) (fun _ _ _ h => h) (Or.inl ⟨by kernel_rfl, ?_⟩) (by assumption) ?_; rotate_left 1; (focus (intro w hSw; (try dsimp only at hSw); simp only [List.getElem_toArray, List.getElem_cons_succ, List.getElem_cons_zero]; all_goals (try go_simp); all_goals (try with_reducible rfl); all_goals (try rfl))); (try simp only [Act.put, List.getElem_toArray, List.getElem_cons_succ, List.getElem_cons_zero, List.setIfInBounds_toArray, List.set_cons_zero, List.set_cons_succ])
                      refine wpAnyH_take (i := 24) (v := ?_) (by rfl) (by kernel_rfl) (by kernel_rfl) (by kernel_rfl) (fun _ _ _ h => h) (Or.inl ⟨by kernel_rfl, ?_⟩) (by assumption) ?_; rotate_left 1; (focus (intro w hSw; (try dsimp only at hSw); simp only [List.getElem_toArray, List.getElem_cons_succ, List.getElem_cons_zero]; all_goals (try go_simp); all_goals (try with_reducible rfl); all_goals (try rfl))); (try simp only [Act.put, List.getElem_toArray, List.getElem_cons_succ, List.getElem_cons_zero, List.setIfInBounds_toArray, List.set_cons_zero, List.set_cons_succ])
                      refine wpAnyH_take (i := 25) (v := ?_) (by rfl) (by kernel_rfl) (by kernel_rfl) (by kernel_rfl) (fun _ _ _ h => h) (Or.inl ⟨by kernel_rfl, ?_⟩) (by assumption) ?_; rotate_left 1; (focus (intro w hSw; (try dsimp only at hSw); simp only [List.getElem_toArray, List.getElem_cons_succ, List.getElem_cons_zero]; all_goals (try go_simp); all_goals (try with_reducible rfl); all_goals (try rfl))); (try simp only [Act.put, List.getElem_toArray, List.getElem_cons_succ, List.getElem_cons_zero, List.setIfInBounds_toArray, List.set_cons_zero, List.set_cons_succ])
                      refine wpAnyH_take (i := 26) (v := ?_) (by rfl) (by kernel_rfl) (by kernel_rfl) (by kernel_rfl) (fun _ _ _ h => h) (Or.inl ⟨by kernel_rfl, ?_⟩) (by assumption) ?_; rotate_left 1; (focus (intro w hSw; (try dsimp only at hSw); simp only [List.getElem_toArray, List.getElem_cons_succ, List.getElem_cons_zero]; all_goals (try go_simp); all_goals (try with_reducible rfl); all_goals (try rfl))); (try simp only [Act.put, List.getElem_toArray, List.getElem_cons_succ, List.getElem_cons_zero, List.setIfInBounds_toArray, List.set_cons_zero, List.set_cons_succ])
                      refine wpAnyH_take (i := 27) (v := ?_) (by rfl) (by kernel_rfl) (by kernel_rfl) (by kernel_rfl) (fun _ _ _ h => h) (Or.inl ⟨by kernel_rfl, ?_⟩) (by assumption) ?_; rotate_left 1; (focus (intro w hSw; (try dsimp only at hSw); simp only [List.getElem_toArray, List.getElem_cons_succ, List.getElem_cons_zero]; all_goals (try go_simp); all_goals (try with_reducible rfl); all_goals (try rfl))); (try simp only [Act.put, List.getElem_toArray, List.getElem_cons_succ, List.getElem_cons_zero, List.setIfInBounds_toArray, List.set_cons_zero, List.set_cons_succ])
                      refine wpAnyH_take (i := 28) (v := ?_) (by rfl) (by kernel_rfl) (by kernel_rfl) (by kernel_rfl) (fun _ _ _ h => h) (Or.inl ⟨by kernel_rfl, ?_⟩) (by assumption) ?_; rotate_left 1; (focus (intro w hSw; (try dsimp only at hSw); simp only [List.getElem_toArray, List.getElem_cons_succ, List.getElem_cons_zero]; all_goals (try go_simp); all_goals (try with_reducible rfl); all_goals (try rfl))); (try simp only [Act.put, List.getElem_toArray, List.getElem_cons_succ, List.getElem_cons_zero, List.setIfInBounds_toArray, List.set_cons_zero, List.set_cons_succ])
                      refine wpAnyH_take (i := 29) (v := ?_) (by rfl) (by kernel_rfl) (by kernel_rfl) (by kernel_rfl) (fun _ _ _ h => h) (Or.inl ⟨by kernel_rfl, ?_⟩) (by assumption) ?_; rotate_left 1; (focus (intro w hSw; (try dsimp only at hSw); simp only [List.getElem_toArray, List.getElem_cons_succ, List.getElem_cons_zero]; all_goals (try go_simp); all_goals (try with_reducible rfl); all_goals (try rfl))); (try simp only [Act.put, List.getElem_toArray, List.getElem_cons_succ, List.getElem_cons_zero, List.setIfInBounds_toArray, List.set_cons_zero, List.set_cons_succ])
                      refine wpAnyH_take (i := 32) (v := ?_) (by rfl) (by kernel_rfl) (by kernel_rfl) (by kernel_rfl) (fun _ _ _ h => h) (Or.inl ⟨by kernel_rfl, ?_⟩) (by assumption) ?_; rotate_left 1; (focus (intro w hSw; (try dsimp only at hSw); simp only [List.getElem_toArray, List.getElem_cons_succ, List.getElem_cons_zero]; all_goals (try go_simp); all_goals (try with_reducible rfl); all_goals (try rfl))); (try simp only [Act.put, List.getElem_toArray, List.getElem_cons_succ, List.getElem_cons_zero, List.setIfInBounds_toArray, List.set_cons_zero, List.set_cons_succ])
                      refine wpAnyH_take (i := 33) (v := ?_) (by rfl) (by kernel_rfl) (by kernel_rfl) (by kernel_rfl) (fun _ _ _ h => h) (Or.inl ⟨by kernel_rfl, ?_⟩) (by assumption) ?_; rotate_left 1; (focus (intro w hSw; (try dsimp only at hSw); simp only [List.getElem_toArray, List.getElem_cons_succ, List.getElem_cons_zero]; all_goals (try go_simp); all_goals (try with_reducible rfl); all_goals (try rfl))); (try simp only [Act.put, List.getElem_toArray, List.getElem_cons_succ, List.getElem_cons_zero, List.setIfInBounds_toArray, List.set_cons_zero, List.set_cons_succ])
                      refine wpAnyH_take (i := 34) (v := ?_) (by rfl) (by kernel_rfl) (by kernel_rfl) (by kernel_rfl) (fun _ _ _ h => h) (Or.inl ⟨by kernel_rfl, ?_⟩) (by assumption) ?_; rotate_left 1; (focus (intro w hSw; (try dsimp only at hSw); simp only [List.getElem_toArray, List.getElem_cons_succ, List.getElem_cons_zero]; all_goals (try go_simp); all_goals (try with_reducible rfl); all_goals (try rfl))); (try simp only [Act.put, List.getElem_toArray, List.getElem_cons_succ, List.getElem_cons_zero, List.setIfInBounds_toArray, List.set_cons_zero, List.set_cons_succ])
                      refine wpAnyH_take (i := 35) (v := ?_) (by rfl) (by kernel_rfl) (by kernel_rfl) (by kernel_rfl) (fun _ _ _ h => h) (Or.inl ⟨by kernel_rfl, ?_⟩) (by assumption) ?_; rotate_left 1; (focus (intro w hSw; (try dsimp only at hSw); simp only [List.getElem_toArray, List.getElem_cons_succ, List.getElem_cons_zero]; all_goals (try go_simp); all_goals (try with_reducible rfl); all_goals (try rfl))); (try simp only [Act.put, List.getElem_toArray, List.getElem_cons_succ, List.getElem_cons_zero, List.setIfInBounds_toArray, List.set_cons_zero, List.set_cons_succ])
                      refine wpAnyH_take (i := 38) (v := ?_) (by rfl) (by kernel_rfl) (by kernel_rfl) (by kernel_rfl) (fun _ _ _ h => h) (Or.inl ⟨by kernel_rfl, ?_⟩) (by assumption) ?_; rotate_left 1; (focus (intro w hSw; (try dsimp only at hSw); simp only [List.getElem_toArray, List.getElem_cons_succ, List.getElem_cons_zero]; all_goals (try go_simp); all_goals (try with_reducible rfl); all_goals (try rfl))); (try simp only [Act.put, List.getElem_toArray, List.getElem_cons_succ, List.getElem_cons_zero, List.setIfInBounds_toArray, List.set_cons_zero, List.set_cons_succ])
                      refine wpAnyH_take (i := 39) (v := ?_) (by rfl) (by kernel_rfl) (by kernel_rfl) (by kernel_rfl) (fun _ _ _ h => h) (Or.inl ⟨by kernel_rfl, ?_⟩) (by assumption) ?_; rotate_left 1; (focus (intro w hSw; (try dsimp only at hSw); simp only [List.getElem_toArray, List.getElem_cons_succ, List.getElem_cons_zero]; all_goals (try go_simp); all_goals (try with_reducible rfl); all_goals (try rfl))); (try simp only [Act.put, List.getElem_toArray, List.getElem_cons_succ, List.getElem_cons_zero, List.setIfInBounds_toArray, List.set_cons_zero, List.set_cons_succ])
                      refine wpAnyH_take (i := 40) (v := ?_) (by rfl) (by kernel_rfl) (by kernel_rfl) (by kernel_rfl) (fun _ _ _ h => h) (Or.inl ⟨by kernel_rfl, ?_⟩) (by assumption) ?_; rotate_left 1; (focus (intro w hSw; (try dsimp only at hSw); simp only [List.getElem_toArray, List.getElem_cons_succ, List.getElem_cons_zero]; all_goals (try go_simp); all_goals (try with_reducible rfl); all_goals (try rfl))); (try simp only [Act.put, List.getElem_toArray, List.getElem_cons_succ, List.getElem_cons_zero, List.setIfInBounds_toArray, List.set_cons_zero, List.set_cons_succ])
                      refine wpAnyH_ready (rs := [19]) (by kernel_rfl) (by simp) ?_; refine AllReadyH.cons (by rfl) (fun K hK => ?_) AllReadyH.nil; rw [if_pos (by kernel_rfl)]; simp only [List.getElem_toArray, List.getElem_cons_succ, List.getElem_cons_zero]; go_wp2_with (first | (go_at_call 14; (with_reducible refine (C1.out _ (And.left (by assumption))).mono ?_); rintro e w' ⟨rfl, hb⟩) | (go_at_call 14; (with_reducible refine (C2.out _ (And.left (by assumption))).mono ?_); rintro e w' ⟨rfl, hb⟩) | (go_at_call 14; (with_reducible refine (C3.out _ (And.left (by assumption))).mono ?_); rintro e w' ⟨rfl, hb⟩) | (go_at_call 17; (with_reducible refine (C4.out _ (And.left (by assumption))).mono ?_); rintro e w' ⟨rfl, hb⟩)); refine hK.out _ _ ?_ (fun hHeld => ?_); (focus (exact sk_below (by assumption) hb)); clear hK K hb; try (try simp only [Act.put, List.getElem_toArray, List.getElem_cons_succ, List.getElem_cons_zero, List.setIfInBounds_toArray, List.set_cons_zero, List.set_cons_succ])
                      refine wpAnyH_ready (rs := [30]) (by kernel_rfl) (by simp) ?_; refine AllReadyH.cons (by rfl) (fun K hK => ?_) AllReadyH.nil; rw [if_pos (by kernel_rfl)]; simp only [List.getElem_toArray, List.getElem_cons_succ, List.getElem_cons_zero]; go_wp2_with (first | (go_at_call 14; (with_reducible refine (C1.out _ (And.left (by assumption))).mono ?_); rintro e w' ⟨rfl, hb⟩) | (go_at_call 14; (with_reducible refine (C2.out _ (And.left (by assumption))).mono ?_); rintro e w' ⟨rfl, hb⟩) | (go_at_call 14; (with_reducible refine (C3.out _ (And.left (by assumption))).mono ?_); rintro e w' ⟨rfl, hb⟩) | (go_at_call 17; (with_reducible refine (C4.out _ (And.left (by assumption))).mono ?_); rintro e w' ⟨rfl, hb⟩)); refine hK.out _ _ ?_ (fun hHeld => ?_); (focus (exact sk_below (by assumption) hb)); clear hK K hb; try (try simp only [Act.put, List.getElem_toArray, List.getElem_cons_succ, List.getElem_cons_zero, List.setIfInBounds_toArray, List.set_cons_zero, List.set_cons_succ])
                      refine wpAnyH_take (i := 31) (v := ?_) (by rfl) (by kernel_rfl) (by kernel_rfl) (by kernel_rfl) (fun _ _ _ h => h) (Or.inl ⟨by kernel_rfl, ?_⟩) (by assumption) ?_; rotate_left 1; (focus (intro w hSw; (try dsimp only at hSw); simp only [List.getElem_toArray, List.getElem_cons_succ, List.getElem_cons_zero]; all_goals (try go_simp); all_goals (try with_reducible rfl); all_goals (try rfl))); (try simp only [Act.put, List.getElem_toArray, List.getElem_cons_succ, List.getElem_cons_zero, List.setIfInBounds_toArray, List.set_cons_zero, List.set_cons_succ])
                      refine wpAnyH_ready (rs := [36]) (by kernel_rfl) (by simp) ?_; refine AllReadyH.cons (by rfl) (fun K hK => ?_) AllReadyH.nil; rw [if_pos (by kernel_rfl)]; simp only [List.getElem_toArray, List.getElem_cons_succ, List.getElem_cons_zero]; go_wp2_with (first | (go_at_call 14; (with_reducible refine (C1.out _ (And.left (by assumption))).mono ?_); rintro e w' ⟨rfl, hb⟩) | (go_at_call 14; (with_reducible refine (C2.out _ (And.left (by assumption))).mono ?_); rintro e w' ⟨rfl, hb⟩) | (go_at_call 14; (with_reducible refine (C3.out _ (And.left (by assumption))).mono ?_); rintro e w' ⟨rfl, hb⟩) | (go_at_call 17; (with_reducible refine (C4.out _ (And.left (by assumption))).mono ?_); rintro e w' ⟨rfl, hb⟩)); refine hK.out _ _ ?_ (fun hHeld => ?_); (focus (exact sk_below (by assumption) hb)); clear hK K hb; try (try simp only [Act.put, List.getElem_toArray, List.getElem_cons_succ, List.getElem_cons_zero, List.setIfInBounds_toArray, List.set_cons_zero, List.set_cons_succ])
                      refine wpAnyH_take (i := 37) (v := ?_) (by rfl) (by kernel_rfl) (by kernel_rfl) (by kernel_rfl) (fun _ _ _ h => h) (Or.inl ⟨by kernel_rfl, ?_⟩) (by assumption) ?_; rotate_left 1; (focus (intro w hSw; (try dsimp only at hSw); simp only [List.getElem_toArray, List.getElem_cons_succ, List.getElem_cons_zero]; all_goals (try go_simp); all_goals (try with_reducible rfl); all_goals (try rfl))); (try simp only [Act.put, List.getElem_toArray, List.getElem_cons_succ, List.getElem_cons_zero, List.setIfInBounds_toArray, List.set_cons_zero, List.set_cons_succ])
                      refine wpAnyH_take (i := 41) (v := ?_) (by rfl) (by kernel_rfl) (by kernel_rfl) (by kernel_rfl) (fun _ _ _ h => h) (Or.inl ⟨by kernel_rfl, ?_⟩) (by assumption) ?_; rotate_left 1; (focus (intro w hSw; (try dsimp only at hSw); simp only [List.getElem_toArray, List.getElem_cons_succ, List.getElem_cons_zero]; all_goals (try go_simp); all_goals (try with_reducible rfl); all_goals (try rfl))); (try simp only [Act.put, List.getElem_toArray, List.getElem_cons_succ, List.getElem_cons_zero, List.setIfInBounds_toArray, List.set_cons_zero, List.set_cons_succ])
                      refine wpAnyH_take (i := 42) (v := ?_) (by rfl) (by kernel_rfl) (by kernel_rfl) (by kernel_rfl) (fun _ _ _ h => h) (Or.inl ⟨by kernel_rfl, ?_⟩) (by assumption) ?_; rotate_left 1; (focus (intro w hSw; (try dsimp only at hSw); simp only [List.getElem_toArray, List.getElem_cons_succ, List.getElem_cons_zero]; all_goals (try go_simp); all_goals (try with_reducible rfl); all_goals (try rfl))); (try simp only [Act.put, List.getElem_toArray, List.getElem_cons_succ, List.getElem_cons_zero, List.setIfInBounds_toArray, List.set_cons_zero, List.set_cons_succ])
                      refine wpAnyH_take (i := 43) (v := ?_) (by rfl) (by kernel_rfl) (by kernel_rfl) (by kernel_rfl) (fun _ _ _ h => h) (Or.inl ⟨by kernel_rfl, ?_⟩) (by assumption) ?_; rotate_left 1; (focus (intro w hSw; (try dsimp only at hSw); simp only [List.getElem_toArray, List.getElem_cons_succ, List.getElem_cons_zero]; all_goals (try go_simp); all_goals (try with_reducible rfl); all_goals (try rfl))); (try simp only [Act.put, List.getElem_toArray, List.getElem_cons_succ, List.getElem_cons_zero, List.setIfInBounds_toArray, List.set_cons_zero, List.set_cons_succ])
                      refine wpAnyH_take (i := 44) (v := ?_) (by rfl) (by kernel_rfl) (by kernel_rfl) (by kernel_rfl) (fun _ _ _ h => h) (Or.inl ⟨by kernel_rfl, ?_⟩) (by assumption) ?_; rotate_left 1; (focus (intro w hSw; (try dsimp only at hSw); simp only [List.getElem_toArray, List.getElem_cons_succ, List.getElem_cons_zero]; all_goals (try go_simp); all_goals (try with_reducible rfl); all_goals (try rfl))); (try simp only [Act.put, List.getElem_toArray, List.getElem_cons_succ, List.getElem_cons_zero, List.setIfInBounds_toArray, List.set_cons_zero, List.set_cons_succ])
                      refine wpAnyH_take (i := 45) (v := ?_) (by rfl) (by kernel_rfl) (by kernel_rfl) (by kernel_rfl) (fun _ _ _ h => h) (Or.inl ⟨by kernel_rfl, ?_⟩) (by assumption) ?_; rotate_left 1; (focus (intro w hSw; (try dsimp only at hSw); simp only [List.getElem_toArray, List.getElem_cons_succ, List.getElem_cons_zero]; all_goals (try go_simp); all_goals (try with_reducible rfl); all_goals (try rfl))); (try simp only [Act.put, List.getElem_toArray, List.getElem_cons_succ, List.getElem_cons_zero, List.setIfInBounds_toArray, List.set_cons_zero, List.set_cons_succ])
                      refine wpAnyH_take (i := 46) (v := ?_) (by rfl) (by kernel_rfl) (by kernel_rfl) (by kernel_rfl) (fun _ _ _ h => h) (Or.inl ⟨by kernel_rfl, ?_⟩) (by assumption) ?_; rotate_left 1; (focus (intro w hSw; (try dsimp only at hSw); simp only [List.getElem_toArray, List.getElem_cons_succ, List.getElem_cons_zero]; all_goals (try go_simp); all_goals (try with_reducible rfl); all_goals (try rfl))); (try simp only [Act.put, List.getElem_toArray, List.getElem_cons_succ, List.getElem_cons_zero, List.setIfInBounds_toArray, List.set_cons_zero, List.set_cons_succ])
                      refine wpAnyH_take (i := 47) (v := undef) (by rfl) (by kernel_rfl) (by kernel_rfl) (by kernel_rfl) (fun _ _ _ h => h) (Or.inr ⟨by kernel_rfl, rfl⟩) (by assumption) ?_; (try simp only [Act.put, List.getElem_toArray, List.getElem_cons_succ, List.getElem_cons_zero, List.setIfInBounds_toArray, List.set_cons_zero, List.set_cons_succ])
                      refine wpAnyH_take (i := 48) (v := undef) (by rfl) (by kernel_rfl) (by kernel_rfl) (by kernel_rfl) (fun _ _ _ h => h) (Or.inr ⟨by kernel_rfl, rfl⟩) (by assumption) ?_; (try simp only [Act.put, List.getElem_toArray, List.getElem_cons_succ, List.getElem_cons_zero, List.setIfInBounds_toArray, List.set_cons_zero, List.set_cons_succ])
                      refine wpAnyH_take (i := 49) (v := undef) (by rfl) (by kernel_rfl) (by kernel_rfl) (by kernel_rfl) (fun _ _ _ h => h) (Or.inr ⟨by kernel_rfl, rfl⟩) (by assumption) ?_; (try simp only [Act.put, List.getElem_toArray, List.getElem_cons_succ, List.getElem_cons_zero, List.setIfInBounds_toArray, List.set_cons_zero, List.set_cons_succ])
                      refine wpAnyH_take (i := 50) (v := undef) (by rfl) (by kernel_rfl) (by kernel_rfl) (by kernel_rfl) (fun _ _ _ h => h) (Or.inr ⟨by kernel_rfl, rfl⟩) (by assumption) ?_; (try simp only [Act.put, List.getElem_toArray, List.getElem_cons_succ, List.getElem_cons_zero, List.setIfInBounds_toArray, List.set_cons_zero, List.set_cons_succ])
                      refine wpAnyH_take (i := 51) (v := undef) (by rfl) (by kernel_rfl) (by kernel_rfl) (by kernel_rfl) (fun _ _ _ h => h) (Or.inr ⟨by kernel_rfl, rfl⟩) (by assumption) ?_; (try simp only [Act.put, List.getElem_toArray, List.getElem_cons_succ, List.getElem_cons_zero, List.setIfInBounds_toArray, List.set_cons_zero, List.set_cons_succ])
                      refine wpAnyH_take (i := 52) (v := undef) (by rfl) (by kernel_rfl) (by kernel_rfl) (by kernel_rfl) (fun _ _ _ h => h) (Or.inr ⟨by kernel_rfl, rfl⟩) (by assumption) ?_; (try simp only [Act.put, List.getElem_toArray, List.getElem_cons_succ, List.getElem_cons_zero, List.setIfInBounds_toArray, List.set_cons_zero, List.set_cons_succ])
                      refine wpAnyH_take (i := 53) (v := ?_) (by rfl) (by kernel_rfl) (by kernel_rfl) (by kernel_rfl) (fun _ _ _ h => h) (Or.inl ⟨by kernel_rfl, ?_⟩) (by assumption) ?_; rotate_left 1; (focus (intro w hSw; (try dsimp only at hSw); simp only [List.getElem_toArray, List.getElem_cons_succ, List.getElem_cons_zero]; all_goals (try go_simp); all_goals (try with_reducible rfl); all_goals (try rfl))); (try simp only [Act.put, List.getElem_toArray, List.getElem_cons_succ, List.getElem_cons_zero, List.setIfInBounds_toArray, List.set_cons_zero, List.set_cons_succ])
                      refine wpAnyH_take (i := 54) (v := ?_) (by rfl) (by kernel_rfl) (by kernel_rfl) (by kernel_rfl) (fun _ _ _ h => h) (Or.inl ⟨by kernel_rfl, ?_⟩) (by assumption) ?_; rotate_left 1; (focus (intro w hSw; (try dsimp only at hSw); simp only [List.getElem_toArray, List.getElem_cons_succ, List.getElem_cons_zero]; all_goals (try go_simp); all_goals (try with_reducible rfl); all_goals (try rfl))); (try simp only [Act.put, List.getElem_toArray, List.getElem_cons_succ, List.getElem_cons_zero, List.setIfInBounds_toArray, List.set_cons_zero, List.set_cons_succ])
                      refine wpAnyH_take (i := 55) (v := ?_) (by rfl) (by kernel_rfl) (by kernel_rfl) (by kernel_rfl) (fun _ _ _ h => h) (Or.inl ⟨by kernel_rfl, ?_⟩) (by assumption) ?_; rotate_left 1; (focus (intro w hSw; (try dsimp only at hSw); simp only [List.getElem_toArray, List.getElem_cons_succ, List.getElem_cons_zero]; all_goals (try go_simp); all_goals (try with_reducible rfl); all_goals (try rfl))); (try simp only [Act.put, List.getElem_toArray, List.getElem_cons_succ, List.getElem_cons_zero, List.setIfInBounds_toArray, List.set_cons_zero, List.set_cons_succ])
                      refine wpAnyH_take (i := 56) (v := ?_) (by rfl) (by kernel_rfl) (by kernel_rfl) (by kernel_rfl) (fun _ _ _ h => h) (Or.inl ⟨by kernel_rfl, ?_⟩) (by assumption) ?_; rotate_left 1; (focus (intro w hSw; (try dsimp only at hSw); simp only [List.getElem_toArray, List.getElem_cons_succ, List.getElem_cons_zero]; all_goals (try go_simp); all_goals (try with_reducible rfl); all_goals (try rfl))); (try simp only [Act.put, List.getElem_toArray, List.getElem_cons_succ, List.getElem_cons_zero, List.setIfInBounds_toArray, List.set_cons_zero, List.set_cons_succ])
                      refine wpAnyH_take (i := 57) (v := ?_) (by rfl) (by kernel_rfl) (by kernel_rfl) (by kernel_rfl) (fun _ _ _ h => h) (Or.inl ⟨by kernel_rfl, ?_⟩) (by assumption) ?_; rotate_left 1; (focus (intro w hSw; (try dsimp only at hSw); simp only [List.getElem_toArray, List.getElem_cons_succ, List.getElem_cons_zero]; all_goals (try go_simp); all_goals (try with_reducible rfl); all_goals (try rfl))); (try simp only [Act.put, List.getElem_toArray, List.getElem_cons_succ, List.getElem_cons_zero, List.setIfInBounds_toArray, List.set_cons_zero, List.set_cons_succ])
                      refine wpAnyH_take (i := 58) (v := ?_) (by rfl) (by kernel_rfl) (by kernel_rfl) (by kernel_rfl) (fun _ _ _ h => h) (Or.inl ⟨by kernel_rfl, ?_⟩) (by assumption) ?_; rotate_left 1; (focus (intro w hSw; (try dsimp only at hSw); simp only [List.getElem_toArray, List.getElem_cons_succ, List.getElem_cons_zero]; all_goals (try go_simp); all_goals (try with_reducible rfl); all_goals (try rfl))); (try simp only [Act.put, List.getElem_toArray, List.getElem_cons_succ, List.getElem_cons_zero, List.setIfInBounds_toArray, List.set_cons_zero, List.set_cons_succ])
                      refine wpAnyH_take (i := 59) (v := ?_) (by rfl) (by kernel_rfl) (by kernel_rfl) (by kernel_rfl) (fun _ _ _ h => h) (Or.inl ⟨by kernel_rfl, ?_⟩) (by assumption) ?_; rotate_left 1; (focus (intro w hSw; (try dsimp only at hSw); simp only [List.getElem_toArray, List.getElem_cons_succ, List.getElem_cons_zero]; all_goals (try go_simp); all_goals (try with_reducible rfl); all_goals (try rfl))); (try simp only [Act.put, List.getElem_toArray, List.getElem_cons_succ, List.getElem_cons_zero, List.setIfInBounds_toArray, List.set_cons_zero, List.set_cons_succ])
                      refine wpAnyH_take (i := 60) (v := ?_) (by rfl) (by kernel_rfl) (by kernel_rfl) (by kernel_rfl) (fun _ _ _ h => h) (Or.inl ⟨by kernel_rfl, ?_⟩) (by assumption) ?_; rotate_left 1; (focus (intro w hSw; (try dsimp only at hSw); simp only [List.getElem_toArray, List.getElem_cons_succ, List.getElem_cons_zero]; all_goals (try go_simp); all_goals (try with_reducible rfl); all_goals (try rfl))); (try simp only [Act.put, List.getElem_toArray, List.getElem_cons_succ, List.getElem_cons_zero, List.setIfInBounds_toArray, List.set_cons_zero, List.set_cons_succ])
                      refine wpAnyH_ready (rs := [61]) (by kernel_rfl) (by simp) ?_; refine AllReadyH.cons (by rfl) (fun K hK => ?_) AllReadyH.nil; rw [if_pos (by kernel_rfl)]; simp only [List.getElem_toArray, List.getElem_cons_succ, List.getElem_cons_zero]; go_wp2_with (first | (go_at_call 14; (with_reducible refine (C1.out _ (And.left (by assumption))).mono ?_); rintro e w' ⟨rfl, hb⟩) | (go_at_call 14; (with_reducible refine (C2.out _ (And.left (by assumption))).mono ?_); rintro e w' ⟨rfl, hb⟩) | (go_at_call 14; (with_reducible refine (C3.out _ (And.left (by assumption))).mono ?_); rintro e w' ⟨rfl, hb⟩) | (go_at_call 17; (with_reducible refine (C4.out _ (And.left (by assumption))).mono ?_); rintro e w' ⟨rfl, hb⟩)); refine hK.out _ _ ?_ (fun hHeld => ?_); (focus (exact sk_below (by assumption) hb)); clear hK K hb; try (try simp only [Act.put, List.getElem_toArray, List.getElem_cons_succ, List.getElem_cons_zero, List.setIfInBounds_toArray, List.set_cons_zero, List.set_cons_succ])
                      refine wpAnyH_take (i := 62) (v := ?_) (by rfl) (by kernel_rfl) (by kernel_rfl) (by kernel_rfl) (fun _ _ _ h => h) (Or.inl ⟨by kernel_rfl, ?_⟩) (by assumption) ?_; rotate_left 1; (focus (intro w hSw; (try dsimp only at hSw); simp only [List.getElem_toArray, List.getElem_cons_succ, List.getElem_cons_zero]; all_goals (try go_simp); all_goals (try with_reducible rfl); all_goals (try rfl))); (try simp only [Act.put, List.getElem_toArray, List.getElem_cons_succ, List.getElem_cons_zero, List.setIfInBounds_toArray, List.set_cons_zero, List.set_cons_succ])
                      refine wpAnyH_done (by kernel_rfl) ?_ _
                      refine NoPanic.normal ?_
                      go_wp2_with fail
                      go_meet
                      refine ⟨rfl, ?_⟩
                      apply And.left
                      assumption
                case rest =>
                  obtain ⟨rfl, hk⟩ := hcut
                  have HEd := Lib.hid (HE5.out.below hk.bel)
                  have HUd := Lib.hid (HU5.out.trans (UpT.below (T := L.T) hk.bel))
                  clear hk HAb C1 C2 C3 C4 C5 v3 v4 v5 v6 hne hvv hkk
                  rename World => wd
                  go_wp2_with fail
                  go_loopw [25] (fun z wt => ∃ j : Nat, j ≤ K9 ∧ z = .int .i64 (j : Int) ∧ Below wd.heap.size wd wt) (fun z _ => K9 - (intOf z).toNat)
                  case atStart => exact ⟨0, Nat.zero_le _, rfl, Below.refl _ _⟩
                  case round =>
                    obtain ⟨j, hj, rfl, hB⟩ := hrel
                    have HEj := Lib.hid (HEd.out.below hB)
                    have HBj := Lib.hid hB
                    have HUj := Lib.hid (HUd.out.trans (UpT.below (T := L.T) hB))
                    have jj0 : (0 : Int) ≤ j := by omega
                    have jj72 : j ≤ 72 := by have := HKM9.out.1; omega
                    clear hB
                    by_cases hlt : j < K9
                    · obtain ⟨y, hy⟩ := at_some (l := itL L D il) (j := j) (by rw [itL_len, hK.out]; exact hlt)
                      obtain ⟨g, hg, hkey⟩ := HKx.out wr HUj.out j y hy
                      obtain ⟨q', hq', hyi⟩ := List.mem_flatMap.1 (List.mem_of_getElem? hy)
                      obtain ⟨y0, y1, y2⟩ := y
                      obtain ⟨hl, hkd⟩ := gone_live L D q K9 il q' hq' (y0, y1, y2) hyi
                      obtain ⟨g1, g2, g3⟩ := gone_calls HEj.out y0 y1 y2 hl
                      subst hg
                      have G1 : Hid (∀ W, KM wr W L g j (y0, y1, y2) → Calls Tryd.prog 18 #[.pointer (some ⟨L.S, 0, none⟩), (Value.agg #[.int .i64 (y0 : Int), .int .i64 (y1 : Int), .int .i64 y2, .int .i64 0, .int .u32 0])] W fun e w' => e = .returned (.bool false) ∧ Below W.heap.size W w') := Lib.hid (fun W h => g1 W h.k.bel)
                      have G2 : Hid (y0 = 4 → ∀ W, KM wr W L g j (y0, y1, y2) → Calls Tryd.prog 19 #[.pointer (some ⟨L.dp, 0, none⟩), .int .i64 (y1 : Int), .int .i64 y2] W fun e w' => e = .returned (.bool false) ∧ Below W.heap.size W w') := Lib.hid (fun e4 W h => g2 e4 W h.k.bel)
                      have G3 : Hid (∀ W, KM wr W L g j (y0, y1, y2) → Calls Tryd.prog 20 #[.pointer (some ⟨L.P, 0, none⟩), (Value.agg #[.int .i64 (y0 : Int), .int .i64 (y1 : Int), .int .i64 y2, .int .i64 0, .int .u32 0])] W fun e w' => e = .returned (.int .i64 (-1)) ∧ Below W.heap.size W w') := Lib.hid (fun W h => g3 W h.k.bel)
                      have HAb : Hid (KM wr wr.drew L g j (y0, y1, y2) ∧ World.cell? wr.drew ⟨L.mb, 0, none⟩ = some (.pointer (some ⟨L.S, 0, none⟩)) ∧ World.cell? wr.drew ⟨L.dP, 0, none⟩ = some (.pointer (some ⟨L.dp, 0, none⟩)) ∧ (World.cell? wr.drew ⟨g, j * 5, none⟩ = some (.int .i64 (y0 : Int)) ∧ World.cell? wr.drew ⟨g, j * 5 + 1, none⟩ = some (.int .i64 (y1 : Int)) ∧ World.cell? wr.drew ⟨g, j * 5 + 2, none⟩ = some (.int .i64 y2) ∧ World.cell? wr.drew ⟨g, j * 5 + 3, none⟩ = some (.int .i64 0) ∧ World.cell? wr.drew ⟨g, j * 5 + 4, none⟩ = some (.int .u32 0))) := Lib.hid (((⟨HEj.out.kl (Below.refl _ _), hkey⟩ : KM wr wr L g j (y0, y1, y2)).below (Below.refl _ _).drew).sm)
                      clear hy hkey hq' hyi hl hkd g1 g2 g3
                      by_cases h4 : y0 = 4
                      · have t4 : ((y0 : Int) == 4) = true := by rw [h4]; rfl
                        have G4 := Lib.hid (G2.out h4)
                        clear h4
                        go_upto_region 44 with fail
                        go_cut [279] (fun v wx => v = .bool false ∧ KM wr wx L g j (y0, y1, y2))
                        case first =>
                          as_aux_lemma =>
                            go_region_held3 (fun w' => (KM wr w' L g j (y0, y1, y2) ∧ World.cell? w' ⟨L.mb, 0, none⟩ = some (.pointer (some ⟨L.S, 0, none⟩)) ∧ World.cell? w' ⟨L.dP, 0, none⟩ = some (.pointer (some ⟨L.dp, 0, none⟩)) ∧ (World.cell? w' ⟨g, j * 5, none⟩ = some (.int .i64 (y0 : Int)) ∧ World.cell? w' ⟨g, j * 5 + 1, none⟩ = some (.int .i64 (y1 : Int)) ∧ World.cell? w' ⟨g, j * 5 + 2, none⟩ = some (.int .i64 y2) ∧ World.cell? w' ⟨g, j * 5 + 3, none⟩ = some (.int .i64 0) ∧ World.cell? w' ⟨g, j * 5 + 4, none⟩ = some (.int .u32 0)))) (first | exact HAb.out | exact sm_below (by assumption) hb) (first
                              | (go_at_call 18; (with_reducible refine (G1.out _ (And.left (by assumption))).mono ?_); rintro e w' ⟨rfl, hb⟩)
                              | (go_at_call 19; (with_reducible refine (G4.out _ (And.left (by assumption))).mono ?_); rintro e w' ⟨rfl, hb⟩)
                              | (go_at_call 20; (with_reducible refine (G3.out _ (And.left (by assumption))).mono ?_); rintro e w' ⟨rfl, hb⟩))
                            go_wp2_with fail
                            go_meet
                            refine ⟨rfl, ?_⟩
                            apply And.left
                            assumption
                        case rest =>
                          obtain ⟨rfl, hk⟩ := hcut
                          have HB6 := Lib.hid (HBj.out.trans (hk.k.bel.mono HBj.out.size))
                          clear hk HAb G1 G2 G3 G4
                          go_wp2_with fail
                          go_roundw
                          case rel => exact ⟨j + 1, by omega, by go_num, HB6.out⟩
                          case measure => simp [intOf]; omega
                      · have t4i : ¬ (y0 : Int) = 4 := by omega
                        have t4 : ((y0 : Int) == 4) = false := by simpa using t4i
                        have t4b : (y0 == 4) = false := by simpa using h4
                        have t4c : decide (y0 = 4) = false := decide_eq_false h4
                        have t4d : decide ((y0 : Int) = 4) = false := decide_eq_false t4i
                        go_upto_region 44 with fail
                        go_cut [279] (fun v wx => v = .bool false ∧ KM wr wx L g j (y0, y1, y2))
                        case first =>
                          as_aux_lemma =>
                            refine wp_region_noPanic ?_
                            refine wp_region_held_drew (S := fun w' => (KM wr w' L g j (y0, y1, y2) ∧ World.cell? w' ⟨L.mb, 0, none⟩ = some (.pointer (some ⟨L.S, 0, none⟩)) ∧ World.cell? w' ⟨L.dP, 0, none⟩ = some (.pointer (some ⟨L.dp, 0, none⟩)) ∧ (World.cell? w' ⟨g, j * 5, none⟩ = some (.int .i64 (y0 : Int)) ∧ World.cell? w' ⟨g, j * 5 + 1, none⟩ = some (.int .i64 (y1 : Int)) ∧ World.cell? w' ⟨g, j * 5 + 2, none⟩ = some (.int .i64 y2) ∧ World.cell? w' ⟨g, j * 5 + 3, none⟩ = some (.int .i64 0) ∧ World.cell? w' ⟨g, j * 5 + 4, none⟩ = some (.int .u32 0)))) (by kernel_rfl) HAb.out (fun hHeld => ?_)
                            refine wpAnyH_take (i := 0) (v := ?_) (by rfl) (by kernel_rfl) (by kernel_rfl) (by kernel_rfl) (fun _ _ _ h => h) (Or.inl ⟨by kernel_rfl, ?_⟩) (by assumption) ?_; rotate_left 1; (focus (intro w hSw; (try dsimp only at hSw); simp only [List.getElem_toArray, List.getElem_cons_succ, List.getElem_cons_zero]; all_goals (try go_simp); all_goals (try with_reducible rfl); all_goals (try rfl))); (try simp only [Act.put, List.getElem_toArray, List.getElem_cons_succ, List.getElem_cons_zero, List.setIfInBounds_toArray, List.set_cons_zero, List.set_cons_succ])
                            refine wpAnyH_take (i := 1) (v := ?_) (by rfl) (by kernel_rfl) (by kernel_rfl) (by kernel_rfl) (fun _ _ _ h => h) (Or.inl ⟨by kernel_rfl, ?_⟩) (by assumption) ?_; rotate_left 1; (focus (intro w hSw; (try dsimp only at hSw); simp only [List.getElem_toArray, List.getElem_cons_succ, List.getElem_cons_zero]; all_goals (try go_simp); all_goals (try with_reducible rfl); all_goals (try rfl))); (try simp only [Act.put, List.getElem_toArray, List.getElem_cons_succ, List.getElem_cons_zero, List.setIfInBounds_toArray, List.set_cons_zero, List.set_cons_succ])
                            refine wpAnyH_take (i := 2) (v := ?_) (by rfl) (by kernel_rfl) (by kernel_rfl) (by kernel_rfl) (fun _ _ _ h => h) (Or.inl ⟨by kernel_rfl, ?_⟩) (by assumption) ?_; rotate_left 1; (focus (intro w hSw; (try dsimp only at hSw); simp only [List.getElem_toArray, List.getElem_cons_succ, List.getElem_cons_zero]; all_goals (try go_simp); all_goals (try with_reducible rfl); all_goals (try rfl))); (try simp only [Act.put, List.getElem_toArray, List.getElem_cons_succ, List.getElem_cons_zero, List.setIfInBounds_toArray, List.set_cons_zero, List.set_cons_succ])
                            refine wpAnyH_take (i := 3) (v := ?_) (by rfl) (by kernel_rfl) (by kernel_rfl) (by kernel_rfl) (fun _ _ _ h => h) (Or.inl ⟨by kernel_rfl, ?_⟩) (by assumption) ?_; rotate_left 1; (focus (intro w hSw; (try dsimp only at hSw); simp only [List.getElem_toArray, List.getElem_cons_succ, List.getElem_cons_zero]; all_goals (try go_simp); all_goals (try with_reducible rfl); all_goals (try rfl))); (try simp only [Act.put, List.getElem_toArray, List.getElem_cons_succ, List.getElem_cons_zero, List.setIfInBounds_toArray, List.set_cons_zero, List.set_cons_succ])
                            refine wpAnyH_take (i := 4) (v := ?_) (by rfl) (by kernel_rfl) (by kernel_rfl) (by kernel_rfl) (fun _ _ _ h => h) (Or.inl ⟨by kernel_rfl, ?_⟩) (by assumption) ?_; rotate_left 1; (focus (intro w hSw; (try dsimp only at hSw); simp only [List.getElem_toArray, List.getElem_cons_succ, List.getElem_cons_zero]; all_goals (try go_simp); all_goals (try with_reducible rfl); all_goals (try rfl))); (try simp only [Act.put, List.getElem_toArray, List.getElem_cons_succ, List.getElem_cons_zero, List.setIfInBounds_toArray, List.set_cons_zero, List.set_cons_succ])
                            refine wpAnyH_take (i := 5) (v := ?_) (by rfl) (by kernel_rfl) (by kernel_rfl) (by kernel_rfl) (fun _ _ _ h => h) (Or.inl ⟨by kernel_rfl, ?_⟩) (by assumption) ?_; rotate_left 1; (focus (intro w hSw; (try dsimp only at hSw); simp only [List.getElem_toArray, List.getElem_cons_succ, List.getElem_cons_zero]; all_goals (try go_simp); all_goals (try with_reducible rfl); all_goals (try rfl))); (try simp only [Act.put, List.getElem_toArray, List.getElem_cons_succ, List.getElem_cons_zero, List.setIfInBounds_toArray, List.set_cons_zero, List.set_cons_succ])
                            refine wpAnyH_take (i := 6) (v := ?_) (by rfl) (by kernel_rfl) (by kernel_rfl) (by kernel_rfl) (fun _ _ _ h => h) (Or.inl ⟨by kernel_rfl, ?_⟩) (by assumption) ?_; rotate_left 1; (focus (intro w hSw; (try dsimp only at hSw); simp only [List.getElem_toArray, List.getElem_cons_succ, List.getElem_cons_zero]; all_goals (try go_simp); all_goals (try with_reducible rfl); all_goals (try rfl))); (try simp only [Act.put, List.getElem_toArray, List.getElem_cons_succ, List.getElem_cons_zero, List.setIfInBounds_toArray, List.set_cons_zero, List.set_cons_succ])
                            refine wpAnyH_take (i := 7) (v := ?_) (by rfl) (by kernel_rfl) (by kernel_rfl) (by kernel_rfl) (fun _ _ _ h => h) (Or.inl ⟨by kernel_rfl, ?_⟩) (by assumption) ?_; rotate_left 1; (focus (intro w hSw; (try dsimp only at hSw); simp only [List.getElem_toArray, List.getElem_cons_succ, List.getElem_cons_zero]; all_goals (try go_simp); all_goals (try with_reducible rfl); all_goals (try rfl))); (try simp only [Act.put, List.getElem_toArray, List.getElem_cons_succ, List.getElem_cons_zero, List.setIfInBounds_toArray, List.set_cons_zero, List.set_cons_succ])
                            refine wpAnyH_ready (rs := [8]) (by kernel_rfl) (by simp) ?_; refine AllReadyH.cons (by rfl) (fun K hK => ?_) AllReadyH.nil; rw [if_pos (by kernel_rfl)]; simp only [List.getElem_toArray, List.getElem_cons_succ, List.getElem_cons_zero]; go_wp2_with (first | (go_at_call 18; (with_reducible refine (G1.out _ (And.left (by assumption))).mono ?_); rintro e w' ⟨rfl, hb⟩) | (go_at_call 20; (with_reducible refine (G3.out _ (And.left (by assumption))).mono ?_); rintro e w' ⟨rfl, hb⟩)); refine hK.out _ _ ?_ (fun hHeld => ?_); (focus (exact sm_below (by assumption) hb)); clear hK K hb; try (try simp only [Act.put, List.getElem_toArray, List.getElem_cons_succ, List.getElem_cons_zero, List.setIfInBounds_toArray, List.set_cons_zero, List.set_cons_succ])
                            refine wpAnyH_take (i := 9) (v := ?_) (by rfl) (by kernel_rfl) (by kernel_rfl) (by kernel_rfl) (fun _ _ _ h => h) (Or.inl ⟨by kernel_rfl, ?_⟩) (by assumption) ?_; rotate_left 1; (focus (intro w hSw; (try dsimp only at hSw); simp only [List.getElem_toArray, List.getElem_cons_succ, List.getElem_cons_zero]; all_goals (try go_simp); all_goals (try with_reducible rfl); all_goals (try rfl))); (try simp only [Act.put, List.getElem_toArray, List.getElem_cons_succ, List.getElem_cons_zero, List.setIfInBounds_toArray, List.set_cons_zero, List.set_cons_succ])
                            refine wpAnyH_take (i := 10) (v := ?_) (by rfl) (by kernel_rfl) (by kernel_rfl) (by kernel_rfl) (fun _ _ _ h => h) (Or.inl ⟨by kernel_rfl, ?_⟩) (by assumption) ?_; rotate_left 1; (focus (intro w hSw; (try dsimp only at hSw); simp only [List.getElem_toArray, List.getElem_cons_succ, List.getElem_cons_zero]; all_goals (try go_simp); all_goals (try with_reducible rfl); all_goals (try rfl))); (try simp only [Act.put, List.getElem_toArray, List.getElem_cons_succ, List.getElem_cons_zero, List.setIfInBounds_toArray, List.set_cons_zero, List.set_cons_succ])
                            refine wpAnyH_take (i := 11) (v := ?_) (by rfl) (by kernel_rfl) (by kernel_rfl) (by kernel_rfl) (fun _ _ _ h => h) (Or.inl ⟨by kernel_rfl, ?_⟩) (by assumption) ?_; rotate_left 1; (focus (intro w hSw; (try dsimp only at hSw); simp only [List.getElem_toArray, List.getElem_cons_succ, List.getElem_cons_zero]; all_goals (try go_simp); all_goals (try with_reducible rfl); all_goals (try rfl))); (try simp only [Act.put, List.getElem_toArray, List.getElem_cons_succ, List.getElem_cons_zero, List.setIfInBounds_toArray, List.set_cons_zero, List.set_cons_succ])
                            refine wpAnyH_take (i := 12) (v := ?_) (by rfl) (by kernel_rfl) (by kernel_rfl) (by kernel_rfl) (fun _ _ _ h => h) (Or.inl ⟨by kernel_rfl, ?_⟩) (by assumption) ?_; rotate_left 1; (focus (intro w hSw; (try dsimp only at hSw); simp only [List.getElem_toArray, List.getElem_cons_succ, List.getElem_cons_zero]; all_goals (try go_simp); all_goals (try with_reducible rfl); all_goals (try rfl))); (try simp only [Act.put, List.getElem_toArray, List.getElem_cons_succ, List.getElem_cons_zero, List.setIfInBounds_toArray, List.set_cons_zero, List.set_cons_succ])
                            refine wpAnyH_take (i := 13) (v := ?_) (by rfl) (by kernel_rfl) (by kernel_rfl) (by kernel_rfl) (fun _ _ _ h => h) (Or.inl ⟨by kernel_rfl, ?_⟩) (by assumption) ?_; rotate_left 1; (focus (intro w hSw; (try dsimp only at hSw); simp only [List.getElem_toArray, List.getElem_cons_succ, List.getElem_cons_zero]; all_goals (try go_simp); all_goals (try with_reducible rfl); all_goals (try rfl))); (try simp only [Act.put, List.getElem_toArray, List.getElem_cons_succ, List.getElem_cons_zero, List.setIfInBounds_toArray, List.set_cons_zero, List.set_cons_succ])
                            refine wpAnyH_take (i := 14) (v := ?_) (by rfl) (by kernel_rfl) (by kernel_rfl) (by kernel_rfl) (fun _ _ _ h => h) (Or.inl ⟨by kernel_rfl, ?_⟩) (by assumption) ?_; rotate_left 1; (focus (intro w hSw; (try dsimp only at hSw); simp only [List.getElem_toArray, List.getElem_cons_succ, List.getElem_cons_zero]; all_goals (try go_simp); all_goals (try with_reducible rfl); all_goals (try rfl))); (try simp only [Act.put, List.getElem_toArray, List.getElem_cons_succ, List.getElem_cons_zero, List.setIfInBounds_toArray, List.set_cons_zero, List.set_cons_succ])
                            refine wpAnyH_take (i := 15) (v := ?_) (by rfl) (by kernel_rfl) (by kernel_rfl) (by kernel_rfl) (fun _ _ _ h => h) (Or.inl ⟨by kernel_rfl, ?_⟩) (by assumption) ?_; rotate_left 1; (focus (intro w hSw; (try dsimp only at hSw); simp only [List.getElem_toArray, List.getElem_cons_succ, List.getElem_cons_zero]; all_goals (try go_simp); all_goals (try with_reducible rfl); all_goals (try rfl))); (try simp only [Act.put, List.getElem_toArray, List.getElem_cons_succ, List.getElem_cons_zero, List.setIfInBounds_toArray, List.set_cons_zero, List.set_cons_succ])
                            refine wpAnyH_take (i := 16) (v := ?_) (by rfl) (by kernel_rfl) (by kernel_rfl) (by kernel_rfl) (fun _ _ _ h => h) (Or.inl ⟨by kernel_rfl, ?_⟩) (by assumption) ?_; rotate_left 1; (focus (intro w hSw; (try dsimp only at hSw); simp only [List.getElem_toArray, List.getElem_cons_succ, List.getElem_cons_zero]; all_goals (try go_simp); all_goals (try with_reducible rfl); all_goals (try rfl))); (try simp only [Act.put, List.getElem_toArray, List.getElem_cons_succ, List.getElem_cons_zero, List.setIfInBounds_toArray, List.set_cons_zero, List.set_cons_succ])
                            refine wpAnyH_take (i := 17) (v := undef) (by rfl) (by kernel_rfl) (by kernel_rfl) (by kernel_rfl) (fun _ _ _ h => h) (Or.inr ⟨by kernel_rfl, rfl⟩) (by assumption) ?_; (try simp only [Act.put, List.getElem_toArray, List.getElem_cons_succ, List.getElem_cons_zero, List.setIfInBounds_toArray, List.set_cons_zero, List.set_cons_succ])
                            refine wpAnyH_take (i := 18) (v := undef) (by rfl) (by kernel_rfl) (by kernel_rfl) (by kernel_rfl) (fun _ _ _ h => h) (Or.inr ⟨by kernel_rfl, rfl⟩) (by assumption) ?_; (try simp only [Act.put, List.getElem_toArray, List.getElem_cons_succ, List.getElem_cons_zero, List.setIfInBounds_toArray, List.set_cons_zero, List.set_cons_succ])
                            refine wpAnyH_take (i := 19) (v := undef) (by rfl) (by kernel_rfl) (by kernel_rfl) (by kernel_rfl) (fun _ _ _ h => h) (Or.inr ⟨by kernel_rfl, rfl⟩) (by assumption) ?_; (try simp only [Act.put, List.getElem_toArray, List.getElem_cons_succ, List.getElem_cons_zero, List.setIfInBounds_toArray, List.set_cons_zero, List.set_cons_succ])
                            refine wpAnyH_take (i := 20) (v := undef) (by rfl) (by kernel_rfl) (by kernel_rfl) (by kernel_rfl) (fun _ _ _ h => h) (Or.inr ⟨by kernel_rfl, rfl⟩) (by assumption) ?_; (try simp only [Act.put, List.getElem_toArray, List.getElem_cons_succ, List.getElem_cons_zero, List.setIfInBounds_toArray, List.set_cons_zero, List.set_cons_succ])
                            refine wpAnyH_take (i := 21) (v := undef) (by rfl) (by kernel_rfl) (by kernel_rfl) (by kernel_rfl) (fun _ _ _ h => h) (Or.inr ⟨by kernel_rfl, rfl⟩) (by assumption) ?_; (try simp only [Act.put, List.getElem_toArray, List.getElem_cons_succ, List.getElem_cons_zero, List.setIfInBounds_toArray, List.set_cons_zero, List.set_cons_succ])
                            refine wpAnyH_take (i := 22) (v := undef) (by rfl) (by kernel_rfl) (by kernel_rfl) (by kernel_rfl) (fun _ _ _ h => h) (Or.inr ⟨by kernel_rfl, rfl⟩) (by assumption) ?_; (try simp only [Act.put, List.getElem_toArray, List.getElem_cons_succ, List.getElem_cons_zero, List.setIfInBounds_toArray, List.set_cons_zero, List.set_cons_succ])
                            refine wpAnyH_take (i := 23) (v := undef) (by rfl) (by kernel_rfl) (by kernel_rfl) (by kernel_rfl) (fun _ _ _ h => h) (Or.inr ⟨by kernel_rfl, rfl⟩) (by assumption) ?_; (try simp only [Act.put, List.getElem_toArray, List.getElem_cons_succ, List.getElem_cons_zero, List.setIfInBounds_toArray, List.set_cons_zero, List.set_cons_succ])
                            refine wpAnyH_take (i := 24) (v := undef) (by rfl) (by kernel_rfl) (by kernel_rfl) (by kernel_rfl) (fun _ _ _ h => h) (Or.inr ⟨by kernel_rfl, rfl⟩) (by assumption) ?_; (try simp only [Act.put, List.getElem_toArray, List.getElem_cons_succ, List.getElem_cons_zero, List.setIfInBounds_toArray, List.set_cons_zero, List.set_cons_succ])
                            refine wpAnyH_take (i := 25) (v := undef) (by rfl) (by kernel_rfl) (by kernel_rfl) (by kernel_rfl) (fun _ _ _ h => h) (Or.inr ⟨by kernel_rfl, rfl⟩) (by assumption) ?_; (try simp only [Act.put, List.getElem_toArray, List.getElem_cons_succ, List.getElem_cons_zero, List.setIfInBounds_toArray, List.set_cons_zero, List.set_cons_succ])
                            refine wpAnyH_take (i := 26) (v := undef) (by rfl) (by kernel_rfl) (by kernel_rfl) (by kernel_rfl) (fun _ _ _ h => h) (Or.inr ⟨by kernel_rfl, rfl⟩) (by assumption) ?_; (try simp only [Act.put, List.getElem_toArray, List.getElem_cons_succ, List.getElem_cons_zero, List.setIfInBounds_toArray, List.set_cons_zero, List.set_cons_succ])
                            refine wpAnyH_take (i := 27) (v := undef) (by rfl) (by kernel_rfl) (by kernel_rfl) (by kernel_rfl) (fun _ _ _ h => h) (Or.inr ⟨by kernel_rfl, rfl⟩) (by assumption) ?_; (try simp only [Act.put, List.getElem_toArray, List.getElem_cons_succ, List.getElem_cons_zero, List.setIfInBounds_toArray, List.set_cons_zero, List.set_cons_succ])
                            refine wpAnyH_take (i := 28) (v := undef) (by rfl) (by kernel_rfl) (by kernel_rfl) (by kernel_rfl) (fun _ _ _ h => h) (Or.inr ⟨by kernel_rfl, rfl⟩) (by assumption) ?_; (try simp only [Act.put, List.getElem_toArray, List.getElem_cons_succ, List.getElem_cons_zero, List.setIfInBounds_toArray, List.set_cons_zero, List.set_cons_succ])
                            refine wpAnyH_take (i := 29) (v := undef) (by rfl) (by kernel_rfl) (by kernel_rfl) (by kernel_rfl) (fun _ _ _ h => h) (Or.inr ⟨by kernel_rfl, rfl⟩) (by assumption) ?_; (try simp only [Act.put, List.getElem_toArray, List.getElem_cons_succ, List.getElem_cons_zero, List.setIfInBounds_toArray, List.set_cons_zero, List.set_cons_succ])
                            refine wpAnyH_take (i := 30) (v := undef) (by rfl) (by kernel_rfl) (by kernel_rfl) (by kernel_rfl) (fun _ _ _ h => h) (Or.inr ⟨by kernel_rfl, rfl⟩) (by assumption) ?_; (try simp only [Act.put, List.getElem_toArray, List.getElem_cons_succ, List.getElem_cons_zero, List.setIfInBounds_toArray, List.set_cons_zero, List.set_cons_succ])
                            refine wpAnyH_take (i := 31) (v := undef) (by rfl) (by kernel_rfl) (by kernel_rfl) (by kernel_rfl) (fun _ _ _ h => h) (Or.inr ⟨by kernel_rfl, rfl⟩) (by assumption) ?_; (try simp only [Act.put, List.getElem_toArray, List.getElem_cons_succ, List.getElem_cons_zero, List.setIfInBounds_toArray, List.set_cons_zero, List.set_cons_succ])
                            refine wpAnyH_take (i := 32) (v := ?_) (by rfl) (by kernel_rfl) (by kernel_rfl) (by kernel_rfl) (fun _ _ _ h => h) (Or.inl ⟨by kernel_rfl, ?_⟩) (by assumption) ?_; rotate_left 1; (focus (intro w hSw; (try dsimp only at hSw); simp only [List.getElem_toArray, List.getElem_cons_succ, List.getElem_cons_zero]; all_goals (try go_simp); all_goals (try with_reducible rfl); all_goals (try rfl))); (try simp only [Act.put, List.getElem_toArray, List.getElem_cons_succ, List.getElem_cons_zero, List.setIfInBounds_toArray, List.set_cons_zero, List.set_cons_succ])
                            refine wpAnyH_take (i := 33) (v := ?_) (by rfl) (by kernel_rfl) (by kernel_rfl) (by kernel_rfl) (fun _ _ _ h => h) (Or.inl ⟨by kernel_rfl, ?_⟩) (by assumption) ?_; rotate_left 1; (focus (intro w hSw; (try dsimp only at hSw); simp only [List.getElem_toArray, List.getElem_cons_succ, List.getElem_cons_zero]; all_goals (try go_simp); all_goals (try with_reducible rfl); all_goals (try rfl))); (try simp only [Act.put, List.getElem_toArray, List.getElem_cons_succ, List.getElem_cons_zero, List.setIfInBounds_toArray, List.set_cons_zero, List.set_cons_succ])
                            refine wpAnyH_take (i := 34) (v := ?_) (by rfl) (by kernel_rfl) (by kernel_rfl) (by kernel_rfl) (fun _ _ _ h => h) (Or.inl ⟨by kernel_rfl, ?_⟩) (by assumption) ?_; rotate_left 1; (focus (intro w hSw; (try dsimp only at hSw); simp only [List.getElem_toArray, List.getElem_cons_succ, List.getElem_cons_zero]; all_goals (try go_simp); all_goals (try with_reducible rfl); all_goals (try rfl))); (try simp only [Act.put, List.getElem_toArray, List.getElem_cons_succ, List.getElem_cons_zero, List.setIfInBounds_toArray, List.set_cons_zero, List.set_cons_succ])
                            refine wpAnyH_take (i := 35) (v := ?_) (by rfl) (by kernel_rfl) (by kernel_rfl) (by kernel_rfl) (fun _ _ _ h => h) (Or.inl ⟨by kernel_rfl, ?_⟩) (by assumption) ?_; rotate_left 1; (focus (intro w hSw; (try dsimp only at hSw); simp only [List.getElem_toArray, List.getElem_cons_succ, List.getElem_cons_zero]; all_goals (try go_simp); all_goals (try with_reducible rfl); all_goals (try rfl))); (try simp only [Act.put, List.getElem_toArray, List.getElem_cons_succ, List.getElem_cons_zero, List.setIfInBounds_toArray, List.set_cons_zero, List.set_cons_succ])
                            refine wpAnyH_take (i := 36) (v := ?_) (by rfl) (by kernel_rfl) (by kernel_rfl) (by kernel_rfl) (fun _ _ _ h => h) (Or.inl ⟨by kernel_rfl, ?_⟩) (by assumption) ?_; rotate_left 1; (focus (intro w hSw; (try dsimp only at hSw); simp only [List.getElem_toArray, List.getElem_cons_succ, List.getElem_cons_zero]; all_goals (try go_simp); all_goals (try with_reducible rfl); all_goals (try rfl))); (try simp only [Act.put, List.getElem_toArray, List.getElem_cons_succ, List.getElem_cons_zero, List.setIfInBounds_toArray, List.set_cons_zero, List.set_cons_succ])
                            refine wpAnyH_take (i := 37) (v := ?_) (by rfl) (by kernel_rfl) (by kernel_rfl) (by kernel_rfl) (fun _ _ _ h => h) (Or.inl ⟨by kernel_rfl, ?_⟩) (by assumption) ?_; rotate_left 1; (focus (intro w hSw; (try dsimp only at hSw); simp only [List.getElem_toArray, List.getElem_cons_succ, List.getElem_cons_zero]; all_goals (try go_simp); all_goals (try with_reducible rfl); all_goals (try rfl))); (try simp only [Act.put, List.getElem_toArray, List.getElem_cons_succ, List.getElem_cons_zero, List.setIfInBounds_toArray, List.set_cons_zero, List.set_cons_succ])
                            refine wpAnyH_take (i := 38) (v := ?_) (by rfl) (by kernel_rfl) (by kernel_rfl) (by kernel_rfl) (fun _ _ _ h => h) (Or.inl ⟨by kernel_rfl, ?_⟩) (by assumption) ?_; rotate_left 1; (focus (intro w hSw; (try dsimp only at hSw); simp only [List.getElem_toArray, List.getElem_cons_succ, List.getElem_cons_zero]; all_goals (try go_simp); all_goals (try with_reducible rfl); all_goals (try rfl))); (try simp only [Act.put, List.getElem_toArray, List.getElem_cons_succ, List.getElem_cons_zero, List.setIfInBounds_toArray, List.set_cons_zero, List.set_cons_succ])
                            refine wpAnyH_take (i := 39) (v := ?_) (by rfl) (by kernel_rfl) (by kernel_rfl) (by kernel_rfl) (fun _ _ _ h => h) (Or.inl ⟨by kernel_rfl, ?_⟩) (by assumption) ?_; rotate_left 1; (focus (intro w hSw; (try dsimp only at hSw); simp only [List.getElem_toArray, List.getElem_cons_succ, List.getElem_cons_zero]; all_goals (try go_simp); all_goals (try with_reducible rfl); all_goals (try rfl))); (try simp only [Act.put, List.getElem_toArray, List.getElem_cons_succ, List.getElem_cons_zero, List.setIfInBounds_toArray, List.set_cons_zero, List.set_cons_succ])
                            refine wpAnyH_ready (rs := [40]) (by kernel_rfl) (by simp) ?_; refine AllReadyH.cons (by rfl) (fun K hK => ?_) AllReadyH.nil; rw [if_pos (by kernel_rfl)]; simp only [List.getElem_toArray, List.getElem_cons_succ, List.getElem_cons_zero]; go_wp2_with (first | (go_at_call 18; (with_reducible refine (G1.out _ (And.left (by assumption))).mono ?_); rintro e w' ⟨rfl, hb⟩) | (go_at_call 20; (with_reducible refine (G3.out _ (And.left (by assumption))).mono ?_); rintro e w' ⟨rfl, hb⟩)); refine hK.out _ _ ?_ (fun hHeld => ?_); (focus (exact sm_below (by assumption) hb)); clear hK K hb; try (try simp only [Act.put, List.getElem_toArray, List.getElem_cons_succ, List.getElem_cons_zero, List.setIfInBounds_toArray, List.set_cons_zero, List.set_cons_succ])
                            refine wpAnyH_take (i := 41) (v := ?_) (by rfl) (by kernel_rfl) (by kernel_rfl) (by kernel_rfl) (fun _ _ _ h => h) (Or.inl ⟨by kernel_rfl, ?_⟩) (by assumption) ?_; rotate_left 1; (focus (intro w hSw; (try dsimp only at hSw); simp only [List.getElem_toArray, List.getElem_cons_succ, List.getElem_cons_zero]; all_goals (try go_simp); all_goals (try with_reducible rfl); all_goals (try rfl))); (try simp only [Act.put, List.getElem_toArray, List.getElem_cons_succ, List.getElem_cons_zero, List.setIfInBounds_toArray, List.set_cons_zero, List.set_cons_succ])
                            refine wpAnyH_take (i := 42) (v := ?_) (by rfl) (by kernel_rfl) (by kernel_rfl) (by kernel_rfl) (fun _ _ _ h => h) (Or.inl ⟨by kernel_rfl, ?_⟩) (by assumption) ?_; rotate_left 1; (focus (intro w hSw; (try dsimp only at hSw); simp only [List.getElem_toArray, List.getElem_cons_succ, List.getElem_cons_zero]; all_goals (try go_simp); all_goals (try with_reducible rfl); all_goals (try rfl))); (try simp only [Act.put, List.getElem_toArray, List.getElem_cons_succ, List.getElem_cons_zero, List.setIfInBounds_toArray, List.set_cons_zero, List.set_cons_succ])
                            refine wpAnyH_done (by kernel_rfl) ?_ _
                            refine NoPanic.normal ?_
                            go_wp2_with fail
                            go_meet
                            refine ⟨rfl, ?_⟩
                            apply And.left
                            assumption
                        case rest =>
                          obtain ⟨rfl, hk⟩ := hcut
                          have HB6 := Lib.hid (HBj.out.trans (hk.k.bel.mono HBj.out.size))
                          clear hk HAb G1 G2 G3
                          go_wp2_with fail
                          go_roundw
                          case rel => exact ⟨j + 1, by omega, by go_num, HB6.out⟩
                          case measure => simp [intOf]; omega
                    · rename World => wf
                      clear HEd HUd HBj HKx
                      go_wp2_with fail
                      go_loopw [26] (fun z wt => ∃ j : Nat, j ≤ M9 ∧ z = .int .i64 (j : Int) ∧ Below wf.heap.size wf wt) (fun z _ => M9 - (intOf z).toNat)
                      case atStart => exact ⟨0, Nat.zero_le _, rfl, Below.refl _ _⟩
                      case round =>
                        obtain ⟨j, hj, rfl, hB⟩ := hrel
                        have HE6 := Lib.hid (HEj.out.below hB)
                        have HB6 := Lib.hid hB
                        have HU6 := Lib.hid (HUj.out.trans (UpT.below (T := L.T) hB))
                        have jj0 : (0 : Int) ≤ j := by omega
                        have jj72 : j ≤ 72 := by have := HKM9.out.2; omega
                        clear hB
                        by_cases hlt : j < M9
                        · obtain ⟨y, hy⟩ := at_some (l := itL L D sl) (j := j) (by rw [itL_len, hM.out]; exact hlt)
                          obtain ⟨g, hg, hkey⟩ := HKy.out wr HU6.out j y hy
                          obtain ⟨q', hq', hyi⟩ := List.mem_flatMap.1 (List.mem_of_getElem? hy)
                          obtain ⟨y0, y1, y2⟩ := y
                          obtain ⟨hqk, hqc, hno⟩ := HSM.out q' hq'
                          have hqD : q' < D.nb := by rw [HNB.out]; exact hqk
                          have hchain : ∀ z, z ∈ chL D.pr (q' : Int) → thE D.nb il z.toNat = true := by
                            have h := HC.out.chain q q' L.n hqD hqc
                            rw [HIL.out] at h
                            exact h
                          have hth : thE D.nb il q' = true := (if_neg hno).trans (thN_at hqD)
                          have hnn := HW.out.nn
                          have hn := HN.out
                          have h1 := stay_calls HE6.out y0 y1 y2 q' (by omega) hth (stay_live HC.out q K9 il q' hno (y0, y1, y2) hyi) (by omega)
                          have h2 : ∀ W, Below wr.heap.size wr W → Calls Tryd.prog 12 #[.pointer (some ⟨L.P, 0, none⟩), .int .i64 (q' : Int), .int .i64 (q : Int)] W fun e w' => e = .returned (.bool false) ∧ Below W.heap.size W w' := fun W hb => ebwithin_is D.nb (q' : Int) (q : Int) false (by omega) (by omega) hnn (Lib.hid HC.out.pk) (Lib.hid hqc) W (Lib.hid hchain) (HE6.out.below hb).kk
                          subst hg
                          have G1 := Lib.hid h1
                          have G2 := Lib.hid h2
                          have c0 := hkey.c0
                          have c1 := hkey.c1
                          have c2 := hkey.c2
                          have c3 := hkey.c3
                          have c4 := hkey.c4
                          have dlt : decide ((q' : Int) < 0) = false := decide_eq_false (by omega)
                          clear hy hkey hq' hyi hqc hno hchain hth h1 h2
                          go_wp2_with (first
                            | (go_at_call 20; (with_reducible refine G1.out.mono ?_); rintro e w6 ⟨rfl, hb⟩; have HB7 := Lib.hid hb; clear hb c0 c1 c2 c3 c4)
                            | (go_at_call 12; (with_reducible refine (G2.out _ HB7.out).mono ?_); rintro e w7 ⟨rfl, hb⟩; have HB8 := Lib.hid (HB7.out.trans (hb.mono HB7.out.size)); clear hb))
                          go_roundw
                          case rel => exact ⟨j + 1, by omega, by go_num, HB6.out.trans (HB8.out.mono HB6.out.size)⟩
                          case measure => simp [intOf]; omega
                        · go_wp2_with fail
                          go_ret
                          exact ⟨rfl, HB1.out.trans (HE6.out.bel.mono HB1.out.size)⟩
end Go.Proofs.YtagiabcmbihoaaaDoor
namespace Go.Proofs.YtagiabcmbihoaaaDoor
open Go.ChangeShapes Go.WideShapes Go.ChangeAt Go.RowKit
set_option linter.unusedVariables false
set_option linter.unusedSimpArgs false
set_option maxRecDepth 100000 in
set_option maxHeartbeats 4000000 in
theorem ends_big (a0 : Option Addr) (len0 cap0 : Nat) (a1 : Option Addr) (len1 cap1 : Nat) (x2 : Int) (b0 b1 : Bool) (d0 : decide ((5 : Int) < (len0 : Int)) = b0) (d1 : decide ((30 : Int) < (len1 : Int)) = b1) (h : Hid ((b0 || b1) = true)) (w : World) (A : Nat → Addr) (hS : Sen A w) : Calls Tryd.prog 3 #[.slice a0 len0 cap0, .slice a1 len1 cap1, .int .i64 x2] w fun e w' => e = .returned (.bool true) ∧ Below w.heap.size w w' := by
  have HS := Lib.hid hS
  clear hS
  cases b0
  · cases b1
    · have := h.out; simp at this
    · go_enter Tryd.func3, Tryd.ntmps3
      go_wp2_with (first
        | (go_at_call 4; (with_reducible refine (bfirst_is _ A HS.out).mono ?_); rintro e w1 ⟨rfl, hb1⟩; have HB1 := Lib.hid hb1; clear hb1))
      go_ret
      exact ⟨rfl, HB1.out⟩
  · go_enter Tryd.func3, Tryd.ntmps3
    go_wp2_with (first
      | (go_at_call 4; (with_reducible refine (bfirst_is _ A HS.out).mono ?_); rintro e w1 ⟨rfl, hb1⟩; have HB1 := Lib.hid hb1; clear hb1))
    go_ret
    exact ⟨rfl, HB1.out⟩
theorem walk_BankEnds (a0 : Option Addr) (len0 cap0 : Nat) (z0 : List Int) (a1 : Option Addr) (len1 cap1 : Nat) (z1 : List Int) (x2 : Int) (w : World) (w0 : IsRow .i64 w a0 len0 cap0 z0) (w1 : IsRow .i64 w a1 len1 cap1 z1) (w2 : (Lit.int .i64 x2).wf = true) (hL : laidMetH Tryd.prog Rows.bankEndsRow.laid w) : Calls Tryd.prog 3 #[.slice a0 len0 cap0, .slice a1 len1 cap1, .int .i64 x2] w fun e w' => e = .returned (.bool true) ∧ Below w.heap.size w w' := by
  have hS := (sen_of hL (by intro n hn; simp only [List.mem_cons, List.not_mem_nil, or_false] at hn; rcases hn with rfl | rfl | rfl | rfl | rfl | rfl | rfl | rfl | rfl | rfl | rfl | rfl <;> exact ⟨_, by repeat (first | exact List.Mem.head _ | apply List.Mem.tail)⟩))
  clear hL
  obtain ⟨f0, r0⟩ := rowF_of w0
  obtain ⟨f1, r1⟩ := rowF_of w1
  by_cases h0 : len0 ≤ 5
  · by_cases h1 : len1 ≤ 30
    · exact ends_walk a0 len0 cap0 f0 a1 len1 cap1 f1 x2 (fit64 w2) h0 h1 w _ hS r0 r1
    · exact ends_big a0 len0 cap0 a1 len1 cap1 x2 _ _ rfl rfl (Lib.hid (by rw [decide_eq_true (show (30 : Int) < (len1 : Int) by omega)]; simp)) w _ hS
  · exact ends_big a0 len0 cap0 a1 len1 cap1 x2 _ _ rfl rfl (Lib.hid (by rw [decide_eq_true (show (5 : Int) < (len0 : Int) by omega)]; simp)) w _ hS
end Go.Proofs.YtagiabcmbihoaaaDoor
