import Derived.Test.YtggnaalcdekccaaDoorWirePt
namespace Go.Proofs.YtggnaalcdekccaaDoor
open Go.ChangeShapes Go.WideShapes Go.ChangeAt Go.RowKit
set_option linter.unusedVariables false
set_option maxRecDepth 100000 in
theorem puts_big (a la : Option Addr) (len cap llen lcap : Nat) (w : World) (hl : 100 < len ∨ (len ≤ 100 ∧ 30 < llen)) (hm : len ≤ 9223372036854775807) (hm2 : llen ≤ 9223372036854775807) :
    Calls Tryd.prog 3 #[.slice a len cap, .slice la llen lcap] w fun e w' => e = .returned (.bool true) ∧ Below w.heap.size w w' := by
  rcases hl with hl | ⟨hl, hl2⟩
  all_goals
    go_enter Tryd.func3, Tryd.ntmps3
    go_wp2_with (first | (go_at_call 12; refine (wfirst_any _).mono ?_; rintro e w1 ⟨rfl, hb⟩))
    go_ret
    exact ⟨rfl, hb⟩
set_option maxRecDepth 100000 in
set_option maxHeartbeats 8000000 in
theorem puts_small (a la : Option Addr) (cap lcap : Nat) (bs : List Nat) (ns : List Int) (w : World) (hb : SrcB w a bs) (hs : SrcL w la ns) (hl : bs.length ≤ 100) (hl2 : ns.length ≤ 30) (hd : ∀ ad, a = some ad → 0 < bs.length → ad.block < w.heap.size) (hd2 : ∀ ad, la = some ad → 0 < ns.length → ad.block < w.heap.size) :
    Calls Tryd.prog 3 #[.slice a bs.length cap, .slice la ns.length lcap] w fun e w' => e = .returned (.bool true) ∧ Below w.heap.size w w' := by
  have HSB := Lib.hid (show ∀ w', Below w.heap.size w w' → SrcB w' a bs from fun w' h => hb.below2 h hd)
  have HSL := Lib.hid (show ∀ w', Below w.heap.size w w' → SrcL w' la ns from fun w' h => hs.below h hd2)
  have HR := Lib.hid hs.1
  clear hb hs hd hd2
  go_enter Tryd.func3, Tryd.ntmps3
  go_wp2_with fail
  refine (wfirst_any _).mono ?_
  rintro e w1 ⟨rfl, hb1⟩
  have HB1 := Lib.hid hb1
  clear hb1
  go_wp2_with fail
  refine (bytes_out a cap bs _ (by omega) (HSB.out _ HB1.out)).mono ?_
  rintro e w2 ⟨wa, wc, rfl, hs2, ha2, _, _, hb2⟩
  have HB2 := Lib.hid (HB1.out.trans (hb2.mono HB1.out.size))
  have HWAS := Lib.hid (show ∀ w', Below w2.heap.size w2 w' → SrcB w' wa bs from fun w' h => hs2.below h (fun ad e => (ha2 ad e).2))
  clear hs2 ha2 hb2
  go_wp2_with fail
  refine (bytes_out a cap bs _ (by omega) (HSB.out _ HB2.out)).mono ?_
  rintro e w3 ⟨xa, xc, rfl, hs3, ha3, _, _, hb3⟩
  have HB3 := Lib.hid (HB2.out.trans (hb3.mono HB2.out.size))
  have HB23 := Lib.hid hb3
  have HX0 : Hid (Acc w3 w3 bs ns (.slice xa bs.length xc) (.int .i64 0)) := Lib.hid ⟨0, bs, xa, xc, by omega, rfl, rfl, by simp [encs], hs3, fun ad e => (ha3 ad e).2, Below.refl _ _⟩
  clear hs3 ha3 hb3
  go_wp2_with fail
  go_loopw [7, 8] (fun b i wr => Acc w3 wr bs ns b i) (fun _ i _ => ns.length - (intOf i).toNat)
  case atStart => exact HX0.out
  case round =>
    obtain ⟨k, xs, xb, xd, hk, rfl, rfl, hxs, hsx, hax, hbel⟩ := hrel
    have hxl := acc_len hxs hl hl2 HR.out
    have HXS := Lib.hid hxs
    have HSX := Lib.hid hsx
    have HAX := Lib.hid hax
    have HBW := Lib.hid (HB3.out.trans (hbel.mono HB3.out.size))
    have HB := Lib.hid hbel
    clear hxs hsx hax hbel HX0
    by_cases hkl : k < ns.length
    · have hk1 : (k : Int) < (ns.length : Int) := by omega
      obtain ⟨ld, rfl, hcl, hr⟩ := longs_at (HSL.out _ HBW.out) k hkl
      generalize hnn : ns.getD k 0 = n at hcl hr
      have HNN := Lib.hid hnn
      have HRN := Lib.hid hr
      clear hnn hr
      go_wp2_with fail
      refine (refput_out xb xd xs n _ (by omega) HSX.out HRN.out).mono ?_
      rintro e w4 ⟨ys, hys, ya, yc, rfl, hs4, ha4, _, _, hb4⟩
      have HOK : Hid (Acc w3 w4 bs ns (.slice ya ys.length yc) (.int .i64 ((k + 1 : Nat) : Int))) := Lib.hid ⟨k + 1, ys, ya, yc, by omega, rfl, rfl, by rw [hys.out]; exact acc_next HXS.out hkl HNN.out, hs4, fun ad e => (ha4 ad e).2, HB.out.trans (hb4.mono HB.out.size)⟩
      clear hs4 ha4 hb4
      go_wp2_with fail
      go_roundw
      case rel => exact HOK.out
      case measure => simp [intOf]; omega
    · have HT : Hid (xs = bs ++ encs ns) := Lib.hid (by rw [HXS.out, List.take_of_length_le (by omega)])
      have hdd : decide ((k : Int) < (ns.length : Int)) = false := by simp; omega
      clear hk HXS
      go_wp2_with fail
      refine (put_outx a la cap lcap bs ns _ (by omega) (by omega) (HSB.out _ HBW.out) (HSL.out _ HBW.out)).mono ?_
      rintro e w5 ⟨ps, hps, pa, pc, rfl, hs5, ha5, _, _, hb5⟩
      have HB5 := Lib.hid (HBW.out.trans (hb5.mono HBW.out.size))
      have HWX := Lib.hid (show ∀ w', Below w5.heap.size w5 w' → SrcB w' xb xs from fun w' h => HSX.out.below (hb5.trans (h.mono hb5.size)) HAX.out)
      have HPX := Lib.hid (show ∀ w', Below w5.heap.size w5 w' → SrcB w' pa ps from fun w' h => hs5.below h (fun ad e => (ha5 ad e).2))
      have HWW := Lib.hid (show ∀ w', Below w5.heap.size w5 w' → SrcB w' wa bs from fun w' h => HWAS.out _ ((HB23.out.trans (HB.out.mono HB23.out.size)).trans ((hb5.trans (h.mono hb5.size)).mono (HB23.out.trans (HB.out.mono HB23.out.size)).size)))
      clear hs5 ha5 hb5
      go_wp2_with fail
      refine (bytes_out a cap bs _ (by omega) (HSB.out _ HB5.out)).mono ?_
      rintro e w6 ⟨qa, qc, rfl, hs6, ha6, _, _, hb6⟩
      have HB6 := Lib.hid (HB5.out.trans (hb6.mono HB5.out.size))
      have HB56 := Lib.hid hb6
      have HQ0 : Hid (Acc w6 w6 bs ns (.slice qa bs.length qc) (.int .i64 0)) := Lib.hid ⟨0, bs, qa, qc, by omega, rfl, rfl, by simp [encs], hs6, fun ad e => (ha6 ad e).2, Below.refl _ _⟩
      clear hs6 ha6 hb6
      go_wp2_with fail
      go_loopw [10, 11] (fun b i wt => Acc w6 wt bs ns b i) (fun _ i _ => ns.length - (intOf i).toNat)
      case atStart => exact HQ0.out
      case round =>
        obtain ⟨j, qs, qb, qd, hj, rfl, rfl, hqs, hsq, haq, hbelq⟩ := hrel
        have hql := acc_len hqs hl hl2 HR.out
        have HQS := Lib.hid hqs
        have HSQ := Lib.hid hsq
        have HAQ := Lib.hid haq
        have HBQ := Lib.hid (HB6.out.trans (hbelq.mono HB6.out.size))
        have HB7 := Lib.hid hbelq
        clear hqs hsq haq hbelq HQ0
        by_cases hjl : j < ns.length
        · have hj1 : (j : Int) < (ns.length : Int) := by omega
          obtain ⟨ld, rfl, hcl, hr⟩ := longs_at (HSL.out _ HBQ.out) j hjl
          generalize hnn : ns.getD j 0 = n at hcl hr
          have HNN := Lib.hid hnn
          have HRN := Lib.hid hr
          clear hnn hr
          go_wp2_with fail
          refine (put_one_out qb qd qs n _ _ (by omega) HSQ.out HAQ.out HRN.out).mono ?_
          rintro e w8 ⟨ys, hys, ya, yc, rfl, hs8, ha8, _, _, hb8⟩
          have HOK : Hid (Acc w6 w8 bs ns (.slice ya ys.length yc) (.int .i64 ((j + 1 : Nat) : Int))) := Lib.hid ⟨j + 1, ys, ya, yc, by omega, rfl, rfl, by rw [hys.out]; exact acc_next HQS.out hjl HNN.out, hs8, fun ad e => (ha8 ad e).2, HB7.out.trans (hb8.mono HB7.out.size)⟩
          clear hs8 ha8 hb8
          go_wp2_with fail
          go_roundw
          case rel => exact HOK.out
          case measure => simp [intOf]; omega
        · have HTQ : Hid (qs = bs ++ encs ns) := Lib.hid (by rw [HQS.out, List.take_of_length_le (by omega)])
          have hdj : decide ((j : Int) < (ns.length : Int)) = false := by simp; omega
          clear hj HQS
          have HB57 := Lib.hid (HB56.out.trans (HB7.out.mono HB56.out.size))
          have hel : (encs ns).length ≤ 300 := by have := encs_len ns HR.out; omega
          have hpl : ps.length ≤ 400 := by rw [hps.out]; simp; omega
          have t1 : decide (ps = xs) = true := decide_eq_true (by rw [hps.out, HT.out])
          have t2 : decide (qs = xs) = true := decide_eq_true (by rw [HTQ.out, HT.out])
          have T1 := Lib.hid t1
          have T2 := Lib.hid t2
          clear t1 t2
          go_wp2_with fail
          refine (same_is2 pa xb pc xd _ _ ps xs true _ rfl rfl T1.out (HPX.out _ HB57.out) (HWX.out _ HB57.out) (by omega) (by omega)).mono ?_
          rintro e w9 ⟨rfl, hb9⟩
          have HB9 := Lib.hid hb9
          clear hb9
          go_wp2_with fail
          refine (same_is2 qb xb qd xd _ _ qs xs true _ rfl rfl T2.out (HSQ.out.below HB9.out HAQ.out) (HWX.out _ (HB57.out.trans (HB9.out.mono HB57.out.size))) (by omega) (by omega)).mono ?_
          rintro e w10 ⟨rfl, hb10⟩
          have HB10 := Lib.hid (HB9.out.trans (hb10.mono HB9.out.size))
          clear hb10
          go_wp2_with fail
          refine (same_is2 a wa cap wc _ _ bs bs true _ rfl rfl (by simp) (HSB.out _ (HBQ.out.trans (HB10.out.mono HBQ.out.size))) (HWW.out _ (HB57.out.trans (HB10.out.mono HB57.out.size))) (by omega) (by omega)).mono ?_
          rintro e w11 ⟨rfl, hb11⟩
          have HB11 := Lib.hid ((HBQ.out.trans (HB10.out.mono HBQ.out.size)).trans (hb11.mono (HBQ.out.trans (HB10.out.mono HBQ.out.size)).size))
          clear hb11 HB10 HB9 HB57 HPX HWX HWW HSQ HAQ HSX HAX HBQ HB7 HB56 HB6 HB5 HBW HB HB23 HB3 HB2 HB1 HWAS T1 T2 HT HTQ
          go_wp2_with fail
          refine (put_nil_out la 0 lcap ns.length ns _ rfl (by omega) (HSL.out _ HB11.out)).mono ?_
          rintro e w12 ⟨za, zc, rfl, hs12, ha12, _, _, hb12⟩
          have HB12 := Lib.hid (HB11.out.trans (hb12.mono HB11.out.size))
          have HS12 := Lib.hid hs12
          clear hs12 ha12 hb12
          go_wp2_with fail
          refine (nr_len za zc _ (encs ns) _ (by simp) (by omega) HS12.out.1 (fun h0 => ?_)).mono ?_
          · cases za with
            | none => have := HS12.out.2.1 rfl; rw [this] at h0; simp at h0
            | some x => exact ⟨x, rfl, HS12.out.2.2 x rfl⟩
          rintro e w13 ⟨p, g, rfl, hrd, hp, hg, hb13⟩
          have HRD0 : Hid (Rd w13 p g (plc ns 0) (encs ns) .nilIface) := Lib.hid (by rw [plc_zero]; exact hrd)
          have HB13 := Lib.hid hb13
          clear hrd hb13
          go_wp2_with fail
          go_loopw [13] (fun i wt => ∃ m : Nat, m ≤ ns.length ∧ i = .int .i64 m ∧ Rd wt p g (plc ns m) (encs ns) .nilIface ∧ Below w12.heap.size w12 wt) (fun i _ => ns.length - (intOf i).toNat)
          case atStart => exact ⟨0, by omega, rfl, HRD0.out, HB13.out⟩
          case round =>
            obtain ⟨m, hm, rfl, hrd, hbelm⟩ := hrel
            have HRD := Lib.hid hrd
            have HBM := Lib.hid hbelm
            clear hrd hbelm HRD0
            by_cases hml : m < ns.length
            · have hm1 : (m : Int) < (ns.length : Int) := by omega
              obtain ⟨ld, rfl, _, _⟩ := longs_at (HSL.out _ (HB12.out.trans (HBM.out.mono HB12.out.size))) m hml
              have HLC : ∀ w', Below w12.heap.size w12 w' → w'.cell? (ld.add m) = some (.int .i64 (ns.getD m 0)) := fun w' h => ((HSL.out _ (HB12.out.trans (h.mono HB12.out.size))).2.2 ld rfl m hml).1
              have hdr : Below wr.heap.size wr wr.drew := (Below.refl _ _).drew
              have hnum := num_at ns m (HRD.out.below hdr HRD.out.lp HRD.out.lg) hml (by omega) HR.out
              have hfit : ∀ w14, wr.drew.grownBy w14 (some p) → Below w12.heap.size w12 w14 := fun w14 hg14 => (HBM.out.drew).grown hg14 HBM.out.size (fun k hk => by obtain rfl := Option.some.inj hk; exact hp)
              have HST := Lib.hid (show wr.drew.cell? (ld.add m) = some (.int .i64 (ns.getD m 0)) ∧ Below w12.heap.size w12 wr.drew from ⟨HLC _ HBM.out.drew, HBM.out.drew⟩)
              have HNUM := Lib.hid (show Calls Tryd.prog 18 #[.pointer (some ⟨p, 0, none⟩), .int .i64 (-9223372036854775808), .int .i64 9223372036854775807] wr.drew fun e w' => e = .returned (.int .i64 (ns.getD m 0)) ∧ Rd w' p g (plc ns (m + 1)) (encs ns) .nilIface ∧ (w'.cell? (ld.add m) = some (.int .i64 (ns.getD m 0)) ∧ Below w12.heap.size w12 w') from hnum.mono fun e w' ⟨h1, h2, h3⟩ => ⟨h1, h2, HLC _ (hfit _ h3), hfit _ h3⟩)
              clear hnum hfit hdr HLC
              generalize ns.getD m 0 = n at HST HNUM
              have hne : (n != n) = false := by simp
              go_wp2_with fail
              go_region_held3 (fun w' => w'.cell? (ld.add m) = some (.int .i64 n) ∧ Below w12.heap.size w12 w') (first | exact HST.out | assumption)
                (first | (go_at_call 18; refine HNUM.out.mono ?_; rintro e w14 ⟨rfl, hrd14, hst14⟩))
              have HRD14 := Lib.hid hrd14
              have HB14 := Lib.hid hst14.2
              clear hrd14 hst14
              go_wp2_with fail
              go_roundw
              case rel => exact ⟨m + 1, by omega, by go_num, HRD14.out, HB14.out⟩
              case measure => simp [intOf]; omega
            · have hdm : decide ((m : Int) < (ns.length : Int)) = false := by simp; omega
              have hrd2 := HRD.out
              rw [plc_all ns m (by omega)] at hrd2
              have HRD2 := Lib.hid hrd2
              clear hm HRD hrd2
              go_wp2_with (first | (go_at_call 20; refine (rd_err (HRD2.out.below hbl HRD2.out.lp HRD2.out.lg)).mono ?_; rintro e w15 ⟨rfl, rfl⟩) | (go_at_call 19; refine (rd_left HRD2.out (by omega) (Nat.le_refl _)).mono ?_; rintro e w16 ⟨rfl, hbl⟩))
              go_ret
              refine ⟨?_, HB12.out.trans ((HBM.out.trans (hbl.mono HBM.out.size)).mono HB12.out.size)⟩
              simp
theorem puts_any (a la : Option Addr) (len cap llen lcap : Nat) (zs ls : List Int) (w : World) (h : IsRow .u8 w a len cap zs) (h2 : IsRow .i64 w la llen lcap ls) :
    Calls Tryd.prog 3 #[.slice a len cap, .slice la llen lcap] w fun e w' => e = .returned (.bool true) ∧ Below w.heap.size w w' := by
  obtain ⟨bs, rfl, hs, hlt, h0, hc, hcm⟩ := isrow_src h
  obtain ⟨ns, rfl, hs2, hlt2, h02, hc2, hcm2⟩ := isrow_longs h2
  by_cases hl : 100 < bs.length ∨ (bs.length ≤ 100 ∧ 30 < ns.length)
  · exact puts_big a la _ cap _ lcap w hl (by unfold maxLen at hcm; omega) (by unfold maxLen at hcm2; omega)
  · exact puts_small a la cap lcap bs ns w hs hs2 (by omega) (by omega) hlt hlt2
theorem walk_WirePuts (a0 : Option Addr) (len0 cap0 : Nat) (z0 : List Int) (a1 : Option Addr) (len1 cap1 : Nat) (z1 : List Int) (w : World) (w0 : IsRow .u8 w a0 len0 cap0 z0) (w1 : IsRow .i64 w a1 len1 cap1 z1) (hL : laidMetH Tryd.prog Rows.wirePutsRow.laid w) :
    Calls Tryd.prog 3 #[.slice a0 len0 cap0, .slice a1 len1 cap1] w fun e w' => e = .returned (.bool true) ∧ Below w.heap.size w w' :=
  puts_any a0 a1 len0 cap0 len1 cap1 z0 z1 w w0 w1
end Go.Proofs.YtggnaalcdekccaaDoor
