/-
  PagePlays.
-/
import Derived.Test.YtlefmgdfcpnifaaDoorPgP
import Derived.Deep.MidRow
namespace Go.Proofs.YtlefmgdfcpnifaaDoor
open Go.ChangeShapes Go.WideShapes Go.ChangeAt Go.RowKit
set_option linter.unusedVariables false
theorem addr_add (b o j : Nat) : Addr.add ⟨b, o, none⟩ j = ⟨b, o + j, none⟩ := by unfold Addr.add; split <;> simp_all
def ZZ : Array Value := #[.int .u32 0, .int .u32 0, .int .u32 0, .int .u32 0, .int .u32 0, .int .u32 0, .int .u32 0, .int .u32 0, .int .u32 0, .int .u32 0, .int .u32 0, .int .u32 0, .int .u32 0, .int .u32 0, .int .u32 0, .int .u32 0, .int .u32 0, .int .u32 0, .int .u32 0, .int .u32 0, .int .u32 0, .int .u32 0, .int .u32 0, .int .u32 0, .int .u32 0, .int .u32 0, .int .u32 0, .int .u32 0, .int .u32 0, .int .u32 0, .int .u32 0, .int .u32 0]
theorem zz_one : ZZ.all (·.oneCell') = true := by kernel_rfl
theorem infoSheetS : (Tryd.prog.info? 48).map (·.size) = some ZZ.size := by kernel_rfl
theorem updW_nil (W : Nat → Nat → Int) (j : Nat) : updW W j [] = W := by funext a b; simp [updW]
theorem updA_take (V : Nat → Nat → Int) (j q : Nat) (x : Int) (zs : List Int) (hq : q < zs.length) (hx : zs.getD q 0 = x) : updA (updW V j (zs.take q)) j q x = updW V j (zs.take (q + 1)) := by
  funext a b
  have l1 : (zs.take q).length = q := by rw [List.length_take]; omega
  have l2 : (zs.take (q + 1)).length = q + 1 := by rw [List.length_take]; omega
  unfold updA updW
  rw [l1, l2]
  by_cases ha : a = j
  · by_cases hb : b = q
    · rw [if_pos ⟨ha, hb⟩, if_pos ⟨ha, by omega⟩, hb, ← hx]
      simp [List.getD]
    · rw [if_neg (fun h => hb h.2)]
      by_cases hb2 : b < q
      · rw [if_pos ⟨ha, hb2⟩, if_pos ⟨ha, by omega⟩]
        simp [List.getD, hb2, show b < q + 1 by omega]
      · rw [if_neg (by omega), if_neg (by omega)]
  · rw [if_neg (fun h => ha h.1), if_neg (fun h => ha h.1), if_neg (fun h => ha h.1)]
theorem infoB1 : (Tryd.prog.info? 4).map (fun i => (i.zero, i.size, i.bytes)) = some (some (.bool false), 1, 1) := by kernel_rfl
set_option maxRecDepth 100000 in
theorem pplays_big (a : Option Addr) (len cap : Nat) (id at_ : Int) (hl : 60 < len) (w : World) :
    Calls Tryd.prog 6 #[.slice a len cap, .int .i64 id, .int .i64 at_] w fun e w' => e = .returned (.bool true) ∧ Below w.heap.size w w' := by
  have hd : decide ((60 : Int) < (len : Int)) = true := by simp; omega
  go_enter Tryd.func6, Tryd.ntmps6
  go_wp2_with (first
    | (go_at_call 27; refine (pfirst_is _).mono ?_; rintro e w1 ⟨rfl, hb1⟩; have HB1 := Lib.hid hb1; clear hb1)
    | (go_at_call 28; (with_reducible refine (pnew_ok 6 6 (Lib.hid rfl) (by decide) (by decide) _).mono ?_); rintro e w2 ⟨P, p, B, G, rfl, hP, hb⟩; have HB2 := Lib.hid (HB1.out.trans (hb.mono HB1.out.size)); clear hP hb))
  go_ret
  exact ⟨rfl, HB2.out⟩
set_option maxRecDepth 100000 in
set_option maxHeartbeats 16000000 in
theorem pplays_small (a : Option Addr) (len cap : Nat) (id at_ : Int) (hl : len ≤ 60) (w : World) (hr : Reads Tryd.prog w 43 [.slice a len cap]) (A : Nat → Addr) (hS : Sen A w) :
    Calls Tryd.prog 6 #[.slice a len cap, .int .i64 id, .int .i64 at_] w fun e w' => e = .returned (.bool true) ∧ Below w.heap.size w w' := by
  have hd : decide ((60 : Int) < (len : Int)) = false := by simp; omega
  have HR := Lib.hid hr
  have HS := Lib.hid hS
  obtain ⟨i1, hi, hz0, hz1, hz2⟩ := info_parts infoB1
  have HJ := Lib.hid (⟨hi, hz0, hz1, hz2⟩ : Tryd.prog.info? 4 = some i1 ∧ i1.zero = some (.bool false) ∧ i1.size = 1 ∧ i1.bytes = 1)
  clear hi hz0 hz1 hz2 hr hS
  go_enter Tryd.func6, Tryd.ntmps6
  go_wp2_with (first
    | (go_at_call 27; refine (pfirst_is _).mono ?_; rintro e w1 ⟨rfl, hb1⟩; have HB1 := Lib.hid hb1; clear hb1)
    | (go_at_call 28; (with_reducible refine (pnew_ok 6 6 (Lib.hid rfl) (by decide) (by decide) _).mono ?_); rintro e w2 ⟨P, p, B, G, rfl, hP, hb⟩; have HV : Hid (PV w w2 w1.heap.size P p B G 6 6 (fun _ => false) (fun _ => 0) (fun _ _ => 0)) := Lib.hid ⟨HB1.out.trans (hb.mono HB1.out.size), HB1.out.size, hP⟩; clear hP hb)
    | (at_make; refine wpList_make_full _ rfl _ _ 30 rfl w.heap.size 4 i1 (.bool false) 1 Tryd.underlying30 HJ.out.1 HJ.out.2.1 HJ.out.2.2.1 .i64 .i64 _ _ 6 rfl rfl rfl rfl ?b2 ?b3 ?b4 ?_))
  case b2 => rw [HJ.out.2.2.2]; omega
  case b3 => unfold maxLen; omega
  case b4 => exact HV.out.bel.size
  intro w3 hown hgrow
  have HL : Hid (FR w3 w.heap.size w2.heap.size 6 (fun _ => false)) := Lib.hid (by
    unfold FR
    have e : ((List.range 6).map fun i => Value.bool ((fun _ => false : Nat → Bool) i)) = (madeCells #[Value.bool false] 6).toList := by
      rw [toList_madeCells_one]
      simp [List.map_const']
    rw [e]
    exact hown)
  have HG := Lib.hid (show Below w2.heap.size w2 w3 from (Below.refl _ _).grown hgrow (Nat.le_refl _) (fun k hk => by cases hk))
  clear hown hgrow
  obtain ⟨L, HLe⟩ : ∃ L, Hid (w2.heap.size = L) := ⟨_, Lib.hid rfl⟩
  obtain ⟨H, HHe⟩ : ∃ H, Hid (w3.heap.size = H) := ⟨_, Lib.hid rfl⟩
  have HZ0 : Hid (∀ Z : Array Value, Z.toList = flat (fun _ _ => 0) 6 → PZ w (w3.alloc (.cells Z 49)) w1.heap.size P p B G 6 L H (fun _ => false) (fun _ => 0) (fun _ _ => 0) (fun _ => false) (fun _ _ => 0)) := Lib.hid (fun Z hZ => by
    have h1 := HV.out.pg.pl
    have h2 := HV.out.ar.pl
    have h3 := HV.out.ar.lt.2
    have h4 := (HV.out.pg.row.lt G rfl).2
    have h5 := HG.out.size
    have h6 := (FR.lt HL.out).2
    have h7 := HLe.out
    have h8 := HHe.out
    have hb := HV.out.bel.size
    refine ⟨(HV.out.step HG.out).step ((Below.refl _ _).alloc (Nat.le_refl _) _), by rw [← h7]; exact FR.below HL.out ((Below.refl _ _).alloc (Nat.le_refl _) _), ?_, by omega⟩
    rw [← h8, ← hZ]
    have hl : Z.size = 192 := by rw [← Array.length_toList, hZ, flat_len]
    exact ⟨by rw [hZ, flat_len], .inr ⟨w3.heap.size, 1, Z, rfl, by omega, heap_alloc_new _ _, by decide, by decide, by rw [hl], by rw [show 1 * 192 = Z.toList.length by rw [Array.length_toList, hl], List.take_length]⟩⟩)
  go_wp2_with fail
  rw [HLe.out, HHe.out]
  clear HV HL HG HLe HHe
  go_loopw [12] (fun i wr => ∃ (k : Nat) (th : Nat → Bool) (vr : Nat → Int) (W : Nat → Nat → Int), k ≤ len ∧ i = .int .i64 k ∧ PZ w wr w1.heap.size P p B G 6 L H th vr W th W ∧ ∀ i, i < 6 → 0 ≤ vr i ∧ vr i ≤ k) (fun i _ => len - (intOf i).toNat)
  case atStart => exact ⟨0, _, _, _, by omega, rfl, HZ0.out _ (by kernel_rfl), fun i hi => by simp⟩
  case round =>
    obtain ⟨k, th, vr, W, hk, rfl, hP, hvr⟩ := hrel
    have HP := Lib.hid hP
    have HVr := Lib.hid hvr
    clear hP hvr
    by_cases hlt : k < len
    · obtain ⟨y, kd, di, da, dx, a2, m, c, zs, rfl, hD⟩ := pdo_at HR.out k hlt
      have HD0 := Lib.hid hD
      have k0 : (0 : Int) ≤ k := by omega
      have k1 : (k : Int) < len := by omega
      obtain ⟨d0, d1, d2, d3, d4, _, _, _⟩ := hD.below HP.out.pv.bel
      have HZl := Lib.hid hD.ln
      obtain ⟨N, hN⟩ : ∃ N, N = wr.heap.size := ⟨_, rfl⟩
      obtain ⟨w5, hw5⟩ : ∃ w5, w5 = wr.alloc (.cells #[.int .i64 kd, .int .i64 di, .int .i64 da, .int .u32 dx, .slice a2 m c] 52) := ⟨_, rfl⟩
      have HDQ := Lib.hid hN
      have HWQ := Lib.hid hw5
      have HP5 : Hid (PZ w w5 w1.heap.size P p B G 6 L H th vr W th W) := Lib.hid (by rw [hw5]; exact HP.out.step ((Below.refl _ _).alloc (Nat.le_refl _) _))
      have HDK : Hid (PDk w5 N kd di da dx a2 m c) := Lib.hid (by rw [hN, hw5]; exact PDk.new _ _ _ _ _ _ _ _ _)
      have HNe : Hid (N ≤ w5.heap.size ∧ H < N) := Lib.hid (by rw [hN, hw5]; exact ⟨by simp, (HP.out.hv.lt H rfl).2⟩)
      clear hD hN hw5
      by_cases hm : 60 < m
      · have dm : decide ((60 : Int) < (m : Int)) = true := by simp; omega
        have HB5 : Hid (Below w.heap.size w (wr.alloc (.cells #[.int .i64 kd, .int .i64 di, .int .i64 da, .int .u32 dx, .slice a2 m c] 52))) := Lib.hid (by rw [← HWQ.out]; exact HP5.out.pv.bel)
        go_wp2_with fail
        go_ret
        exact ⟨rfl, HB5.out⟩
      · have dm : decide ((60 : Int) < (m : Int)) = false := by simp; omega
        go_upto_region 15 with fail
        rw [← HDQ.out, ← HWQ.out]
        clear HDQ HWQ HP d0 d1 d2 d3 d4
        obtain ⟨ws, HWs⟩ : ∃ ws, Hid (wlist 6 th W id = ws) := ⟨_, Lib.hid rfl⟩
        obtain ⟨mw, HMw⟩ : ∃ mw, Hid (ws.length = mw) := ⟨_, Lib.hid rfl⟩
        go_upto_region 17 with (first
          | (go_at_call 29; (with_reducible refine (pclone_is (by decide) _ HP5.out.pv.pg).mono ?_); rintro e w6 ⟨P2, p2, B2, G2, c2, q2, rfl, hC, hb⟩; have HC6 := Lib.hid hC; have HP6 := Lib.hid (HP5.out.step hb); have HD6 : Hid (PDk w6 N kd di da dx a2 m c) := Lib.hid (HDK.out.same (hb.block N HDK.out.lt) hb.size); have HS6 := Lib.hid hb.size; clear hC hb)
          | (go_at_call 30; (with_reducible refine (pcwords_any id ws HWs mw HMw _ HC6.out).mono ?_); rintro e w7 ⟨aw, cw, rfl, hr, hb⟩; have HRw : Hid (RN2 w7 N aw ws) := Lib.hid ⟨hr.ru, fun ad e => by have h1 := hr.lo ad e; have h2 := HNe.out.1; have h3 := HS6.out; omega⟩; have HC7 : Hid (PcAt w7 w5.heap.size P2 p2 B2 G2 6 c2 q2 th vr W) := Lib.hid (HC6.out.mid (Nat.le_refl _) ⟨hb.size, fun k _ hk => hb.block k hk⟩); have HP7 := Lib.hid (HP6.out.step hb); have HD7 : Hid (PDk w7 N kd di da dx a2 m c) := Lib.hid (HD6.out.same (hb.block N HD6.out.lt) hb.size); clear hr hb))
        clear HP5 HDK HC6 HP6 HD6 HS6
        obtain ⟨ti, HTi⟩ : ∃ ti, Hid (thereB 6 th di = ti) := ⟨_, Lib.hid rfl⟩
        go_cut [16] (fun v wx => v = .bool ti ∧ wx = w7)
        case first => as_aux_lemma =>
          have e1 := HD7.out.c1
          by_cases h0 : 0 ≤ di
          · by_cases h1 : di < 6
            · obtain ⟨j, rfl⟩ : ∃ j : Nat, di = j := ⟨di.toNat, by omega⟩
              have hj : j < 6 := by omega
              have eL := FR.at HP7.out.lv j hj
              have E : th j = ti := by rw [← HTi.out]; unfold thereB; rw [decide_eq_true (by omega)]; simp
              rw [E] at eL
              clear E
              go_wp2_with fail
              go_meet
              exact ⟨rfl, rfl⟩
            · have E : Hid (ti = false) := Lib.hid (by rw [← HTi.out]; unfold thereB; rw [decide_eq_false (by omega)]; rfl)
              go_wp2_with fail
              go_meet
              exact ⟨by rw [E.out], rfl⟩
          · have E : Hid (ti = false) := Lib.hid (by rw [← HTi.out]; unfold thereB; rw [decide_eq_false (by omega)]; rfl)
            go_wp2_with fail
            go_meet
            exact ⟨by rw [E.out], rfl⟩
        obtain ⟨rfl, hwc⟩ := hcut
        rw [hwc]
        clear hwc wc
        have e0 := HD7.out.c0
        go_upto_block 2 with fail
        clear e0
        go_cut [] (fun wx => ∃ (th' : Nat → Bool) (vr' : Nat → Int) (W' : Nat → Nat → Int), PZ w wx w1.heap.size P p B G 6 L H th' vr' W' th' W' ∧ (∀ i, i < 6 → 0 ≤ vr' i ∧ vr' i ≤ (k : Int) + 1) ∧ Mid N w7.heap.size w7 wx)
        case first =>
          have HM0 := Lib.hid (Mid.refl N w7)
          have e0 := HD7.out.c0
          have e1 := HD7.out.c1
          have e4 := HD7.out.c4
          have HV1 : Hid (∀ i, i < 6 → 0 ≤ vr i ∧ vr i ≤ (k : Int) + 1) := Lib.hid (fun i hi => by have := HVr.out i hi; omega)
          by_cases hk1 : kd = 1
          · obtain rfl := hk1
            rcases first_at (fun i => !th i) 6 with hall | ⟨j, hj, hjt, hjl⟩
            · exact by as_aux_lemma =>
                have HAll : Hid (∀ i, i < 6 → th i = true) := Lib.hid (fun i hi => by have := hall i hi; simpa using this)
                have HFr : Hid (∀ i, i < 6 → freeB th vr i = false) := Lib.hid (fun i hi => by unfold freeB; rw [HAll.out i hi]; rfl)
                clear hall
                go_wp2_with fail
                go_loop [17, 18] (fun v z => ∃ q : Nat, q ≤ 6 ∧ v = .int .i64 (-1) ∧ z = .int .i64 q) (fun _ z => 6 - (intOf z).toNat)
                case atStart => exact ⟨0, by omega, rfl, rfl⟩
                case round =>
                  obtain ⟨q, hq, rfl, rfl⟩ := hrel
                  by_cases hq6 : q < 6
                  · have q0 : (0 : Int) ≤ q := by omega
                    have q1 : (q : Int) < 6 := by omega
                    have eL := FR.at HP7.out.lv q hq6
                    rw [HAll.out q hq6] at eL
                    go_wp2_with fail
                    go_round
                    case rel => exact ⟨q + 1, by omega, rfl, by go_num⟩
                    case measure => simp [intOf]; omega
                  · have q1 : ¬ ((q : Int) < 6) := by omega
                    by_cases hm2 : 32 < m
                    · have d2 : decide ((32 : Int) < (m : Int)) = true := by simp; omega
                      go_wp2_with (first
                        | (go_at_call 31; (with_reducible refine (pmake_many (P := P) a2 m c hm2 (sA A 3) _ _ (HS.out.below HP7.out.pv.bel).c3).mono ?_); rintro e w8 ⟨rfl, hb⟩; have HP8 := Lib.hid (HP7.out.step hb); have HM8 := Lib.hid (HM0.out.step hb); have e8 := (HD7.out.mid (Nat.le_refl _) HM8.out).c4; clear hb)
                        | (go_at_call 16; (with_reducible refine (is_sen A 3 104 (by decide) (Lib.hid (by decide)) _ (HS.out.below HP8.out.pv.bel)).mono ?_); rintro e w9 ⟨rfl, hb⟩; have HP9 := Lib.hid (HP8.out.step hb); have HM9 := Lib.hid (HM8.out.step hb); clear hb))
                      go_meet
                      exact ⟨th, vr, W, HP9.out, HV1.out, HM9.out⟩
                    · have d2 : decide ((32 : Int) < (m : Int)) = false := by simp; omega
                      have hm32 : m ≤ 32 := by omega
                      go_wp2_with (first
                        | (go_at_call 31; (with_reducible refine (pmake_fullg a2 m c hm32 _ HP7.out.pv.pg HFr (sA A 5) _ (HS.out.below HP7.out.pv.bel).c5 (HS.out.below HP7.out.pv.bel).s5).mono ?_); rintro e w8 ⟨rfl, hb⟩; have HP8 := Lib.hid (HP7.out.step hb); have HM8 := Lib.hid (HM0.out.step hb); have e8 := (HD7.out.mid (Nat.le_refl _) HM8.out).c4; clear hb)
                        | (go_at_call 16; (with_reducible refine (is_sen A 5 106 (by decide) (Lib.hid (by decide)) _ (HS.out.below HP8.out.pv.bel)).mono ?_); rintro e w9 ⟨rfl, hb⟩; have HP9 := Lib.hid (HP8.out.step hb); have HM9 := Lib.hid (HM8.out.step hb); clear hb))
                      go_meet
                      exact ⟨th, vr, W, HP9.out, HV1.out, HM9.out⟩
            · exact by as_aux_lemma =>
                have hjt' : th j = false := by simpa using hjt
                have HJt := Lib.hid hjt'
                have HLt : Hid (∀ i, i < j → th i = true) := Lib.hid (fun i hi => by have := hjl i hi; simpa using this)
                have HFj : Hid (freeB th vr j = true) := Lib.hid (by have := HVr.out j hj; unfold freeB; rw [hjt']; simp; omega)
                have HNo : Hid (∀ i, i < j → freeB th vr i = false) := Lib.hid (fun i hi => by unfold freeB; rw [HLt.out i hi]; rfl)
                have j0 : (0 : Int) ≤ j := by omega
                have j1 : (j : Int) < 6 := by omega
                clear hjt hjt' hjl
                go_wp2_with fail
                go_loop [17, 18] (fun v z => ∃ q : Nat, z = .int .i64 q ∧ ((q ≤ j ∧ v = .int .i64 (-1)) ∨ (q = j + 1 ∧ v = .int .i64 (j : Int)))) (fun _ z => 7 - (intOf z).toNat)
                case atStart => exact ⟨0, rfl, .inl ⟨by omega, rfl⟩⟩
                case round =>
                  obtain ⟨q, rfl, hcase⟩ := hrel
                  rcases hcase with ⟨hq, rfl⟩ | ⟨hq, rfl⟩
                  · have q0 : (0 : Int) ≤ q := by omega
                    have q1 : (q : Int) < 6 := by omega
                    have eL := FR.at HP7.out.lv q (by omega)
                    by_cases hqj : q < j
                    · rw [HLt.out q hqj] at eL
                      go_wp2_with fail
                      go_round
                      case rel => exact ⟨q + 1, by go_num, .inl ⟨by omega, rfl⟩⟩
                      case measure => simp [intOf]; omega
                    · obtain rfl : q = j := by omega
                      rw [HJt.out] at eL
                      go_wp2_with fail
                      go_round
                      case rel => exact ⟨q + 1, by go_num, .inr ⟨rfl, rfl⟩⟩
                      case measure => simp [intOf]; omega
                  · have q0 : (0 : Int) ≤ q := by omega
                    clear hq
                    go_upto_region 26 with fail
                    go_cut [118] (fun v wx => v = .bool false ∧ wx = w7)
                    case first =>
                      by_cases hq6 : q < 6
                      · have q1 : (q : Int) < 6 := by omega
                        go_wp2_with fail
                        go_meet
                        exact ⟨rfl, rfl⟩
                      · have q1 : ¬ ((q : Int) < 6) := by omega
                        go_wp2_with fail
                        go_meet
                        exact ⟨rfl, rfl⟩
                    obtain ⟨rfl, hwc⟩ := hcut
                    rw [hwc]
                    clear hwc wc
                    by_cases hm2 : 32 < m
                    · have d2 : decide ((32 : Int) < (m : Int)) = true := by simp; omega
                      go_wp2_with (first
                        | (go_at_call 31; (with_reducible refine (pmake_many (P := P) a2 m c hm2 (sA A 3) _ _ (HS.out.below HP7.out.pv.bel).c3).mono ?_); rintro e w8 ⟨rfl, hb⟩; have HP8 := Lib.hid (HP7.out.step hb); have HM8 := Lib.hid (HM0.out.step hb); have e8 := (HD7.out.mid (Nat.le_refl _) HM8.out).c4; clear hb)
                        | (go_at_call 16; (with_reducible refine (is_sen A 3 104 (by decide) (Lib.hid (by decide)) _ (HS.out.below HP8.out.pv.bel)).mono ?_); rintro e w9 ⟨rfl, hb⟩; have HP9 := Lib.hid (HP8.out.step hb); have HM9 := Lib.hid (HM8.out.step hb); clear hb))
                      go_meet
                      exact ⟨th, vr, W, HP9.out, HV1.out, HM9.out⟩
                    · have d2 : decide ((32 : Int) < (m : Int)) = false := by simp; omega
                      have hm32 : m ≤ 32 := by omega
                      go_upto_region 34 with (first
                        | (go_at_call 31; (with_reducible refine (pmake_ok a2 m c zs HZl hm32 j hj HFj HNo (vr j) (Lib.hid rfl) _ HP7.out.pv.pg (srcu_arg HP7.out.pv HD0.out.ru)).mono ?_); rintro e w8 ⟨rfl, hM, hb⟩; have HP8 := Lib.hid (HP7.out.made hM hb); have HM8 := Lib.hid (HM0.out.made hb (by have := HP7.out.lo; have := HNe.out; omega) (by have := HP7.out.lo; have := HNe.out; omega)); have e8 := (HD7.out.mid (Nat.le_refl _) HM8.out).c4; have eL := FR.at HP8.out.lv j hj; have zL := FR.free HP8.out.lv j; obtain ⟨w9, hw9⟩ : ∃ w9, w9 = w8.setCell ⟨L, j, none⟩ (.bool true) := ⟨_, rfl⟩; have HW9 := Lib.hid hw9; have HP9 : Hid (PZ w w9 w1.heap.size P p B G 6 L H (upd th j true) vr (fresh W j zs) (upd th j true) W) := Lib.hid (by rw [hw9]; exact (HP8.out.live j hj true).1); have HM9 : Hid (Mid N w7.heap.size w7 w9) := Lib.hid (by rw [hw9]; exact HM8.out.grown (HP8.out.live j hj true).2 (by have := HP7.out.lo; have := HNe.out; omega)); clear hM hb hw9 e0 e1 e4))
                      rw [← HW9.out]
                      clear eL zL e8 HW9
                      have HTh : Hid (w9.there H (j * 32) 32) := Lib.hid (fun b hb => by have h := HP9.out.hat j b hj hb; exact ⟨by rw [h.1]; rfl, h.2⟩)
                      go_wp2_with (refine wpList_store_mid (by rfl) _ _ _ (by rfl) H (j * 32) ZZ (by rfl) (by rfl) HTh.out infoSheetS zz_one ?_; obtain ⟨w10, hw10⟩ : ∃ w10, w10 = w9.setCells H (j * 32) ZZ.toList := ⟨_, rfl⟩; rw [← hw10]; have HP10 : Hid (PZ w w10 w1.heap.size P p B G 6 L H (upd th j true) vr (fresh W j zs) (upd th j true) (updW W j (List.replicate 32 0))) := Lib.hid (by rw [hw10]; exact (HP9.out.havs j hj (List.replicate 32 0) (by simp)).1); have HM10 : Hid (Mid N w7.heap.size w7 w10) := Lib.hid (by rw [hw10]; exact HM9.out.grown (HP9.out.havs j hj (List.replicate 32 0) (by simp)).2 (by have := HNe.out; omega)); clear hw10)
                      go_loopw [22] (fun z wx => ∃ q : Nat, q ≤ m ∧ z = .int .i64 q ∧ PZ w wx w1.heap.size P p B G 6 L H (upd th j true) vr (fresh W j zs) (upd th j true) (updW (updW W j (List.replicate 32 0)) j (zs.take q)) ∧ Mid N w7.heap.size w7 wx) (fun z _ => m - (intOf z).toNat)
                      case atStart => exact ⟨0, by omega, rfl, by rw [List.take_zero, updW_nil]; exact HP10.out, HM10.out⟩
                      case round =>
                        obtain ⟨u, hu, rfl, hP, hM⟩ := hrel
                        have HPq := Lib.hid hP
                        have HMq := Lib.hid hM
                        clear hP hM
                        have e8 := (HD7.out.mid (Nat.le_refl _) HMq.out).c4
                        by_cases hum : u < m
                        · have huz : u < zs.length := by rw [HZl.out]; exact hum
                          obtain ⟨ad, rfl, _, hc1⟩ := (HD0.out.ru.below HPq.out.pv.bel) u huz
                          obtain ⟨x, HX⟩ : ∃ x, Hid (zs.getD u 0 = x) := ⟨_, Lib.hid rfl⟩
                          rw [HX.out] at hc1
                          have u0 : (0 : Int) ≤ u := by omega
                          have u1 : (u : Int) < m := by omega
                          have u2 : (u : Int) < 32 := by omega
                          have hu32 : u < 32 := by omega
                          have HU := Lib.hid (updA_take (updW W j (List.replicate 32 0)) j u x zs huz HX.out)
                          have HPd := Lib.hid (HPq.out.step ((Below.refl _ _).drew))
                          have HMd := Lib.hid (HMq.out.step ((Below.refl _ _).drew))
                          have HDd := Lib.hid (HD7.out.mid (Nat.le_refl _) HMd.out)
                          have HPs := Lib.hid (HPq.out.hav j u hj hu32 x)
                          have HMs := Lib.hid (HMq.out.grown HPs.out.2 (by have := HNe.out; omega))
                          have HPe := Lib.hid (HPs.out.1.step ((Below.refl _ _).drew))
                          have HMe := Lib.hid (HMs.out.step ((Below.refl _ _).drew))
                          have HDe := Lib.hid (HD7.out.mid (Nat.le_refl _) HMe.out)
                          have HRd := Lib.hid (HD0.out.ru.below HPd.out.pv.bel)
                          have HRe := Lib.hid (HD0.out.ru.below HPe.out.pv.bel)
                          have hcd : wr.drew.cell? (ad.add u) = some (.int .u32 x) := by
                            obtain ⟨ad', h1, _, h2⟩ := HRd.out u huz
                            rw [← Option.some.inj h1, HX.out] at h2
                            exact h2
                          have hce : (wr.setCell ⟨H, j * 32 + u, none⟩ (.int .u32 x)).drew.cell? (ad.add u) = some (.int .u32 x) := by
                            obtain ⟨ad', h1, _, h2⟩ := HRe.out u huz
                            rw [← Option.some.inj h1, HX.out] at h2
                            exact h2
                          have HCd := Lib.hid hcd
                          have HCe := Lib.hid hce
                          have eH := (HPd.out.hat j u hj hu32).1
                          have zH := (HPd.out.hat j u hj hu32).2
                          clear hcd hce huz
                          go_wp2_with fail
                          go_region_held3 (fun w' => w'.cell? ⟨N, 4, none⟩ = some (.slice (some ad) m c) ∧ w'.cell? (ad.add u) = some (.int .u32 x)) (first | exact ⟨HDd.out.c4, HCd.out⟩ | exact ⟨HDe.out.c4, HCe.out⟩ | assumption) (fail)
                          go_wp2_with fail
                          go_roundw
                          case rel => exact ⟨u + 1, by omega, by go_num, by rw [← HU.out]; exact HPe.out, HMe.out⟩
                          case measure => simp [intOf]; omega
                        · obtain rfl : u = m := by omega
                          have hdd : decide (u < u) = false := by simp
                          have HFx : Hid (updW (updW W j (List.replicate 32 0)) j (zs.take u) = fresh W j zs) := Lib.hid (by rw [List.take_of_length_le (by rw [HZl.out]; exact Nat.le_refl _)]; rfl)
                          have HPz := Lib.hid (show PZ w wr w1.heap.size P p B G 6 L H (upd th j true) vr (fresh W j zs) (upd th j true) (fresh W j zs) by have h := HPq.out; rw [HFx.out] at h; exact h)
                          go_wp2_with fail
                          go_meet
                          exact ⟨_, vr, _, HPz.out, HV1.out, HMq.out⟩
          · have t1 : (kd == 1) = false := by simpa using hk1
            by_cases hk2 : kd = 2
            · obtain rfl := hk2
              exact by as_aux_lemma =>
                obtain ⟨tw, HTw⟩ : ∃ tw, Hid (wordB 6 th di da = tw) := ⟨_, Lib.hid rfl⟩
                have e2 := HD7.out.c2
                have e3 := HD7.out.c3
                go_upto_region 46 with fail
                go_cut [23] (fun v wx => v = .bool tw ∧ wx = w7)
                case first =>
                  cases ti
                  · have E : Hid (tw = false) := Lib.hid (by rw [← HTw.out]; unfold wordB; rw [HTi.out]; rfl)
                    go_wp2_with fail
                    go_meet
                    exact ⟨by rw [E.out], rfl⟩
                  · by_cases h0 : 0 ≤ da
                    · by_cases h1 : da < 32
                      · have E : Hid (tw = true) := Lib.hid (by rw [← HTw.out]; unfold wordB; rw [HTi.out, decide_eq_true ⟨h0, h1⟩]; rfl)
                        go_wp2_with fail
                        go_meet
                        exact ⟨by rw [E.out], rfl⟩
                      · have E : Hid (tw = false) := Lib.hid (by rw [← HTw.out]; unfold wordB; rw [HTi.out, decide_eq_false (by omega)]; rfl)
                        go_wp2_with fail
                        go_meet
                        exact ⟨by rw [E.out], rfl⟩
                    · have E : Hid (tw = false) := Lib.hid (by rw [← HTw.out]; unfold wordB; rw [HTi.out, decide_eq_false (by omega)]; rfl)
                      go_wp2_with fail
                      go_meet
                      exact ⟨by rw [E.out], rfl⟩
                obtain ⟨rfl, hwc⟩ := hcut
                rw [hwc]
                clear hwc wc
                cases tw
                · have HTw' : Hid ((thereB 6 th di && decide (0 ≤ da ∧ da < 32)) = false) := Lib.hid HTw.out
                  go_wp2_with (first
                    | (go_at_call 32; (with_reducible refine (pwrite_no di da dx HTw' _ HP7.out.pv.pg).mono ?_); rintro e w8 ⟨rfl, rfl⟩))
                  go_meet
                  exact ⟨th, vr, W, HP7.out, HV1.out, HM0.out⟩
                · obtain ⟨i, j, rfl, rfl, hi, hj, hij⟩ := word_nat HTw.out
                  have HIJ := Lib.hid hij
                  have i0 : (0 : Int) ≤ i := by omega
                  have i1 : (i : Int) < 6 := by omega
                  have j0 : (0 : Int) ≤ j := by omega
                  have j1 : (j : Int) < 32 := by omega
                  clear hij
                  go_upto_region 50 with (first
                    | (go_at_call 32; (with_reducible refine (pwrite_is i j hi hj HIJ dx _ HP7.out.pv.pg).mono ?_); rintro e w8 ⟨rfl, hG, hb⟩; have HP8 := Lib.hid (HP7.out.made hG hb); have HM8 := Lib.hid (HM0.out.made hb (by have := HP7.out.lo; have := HNe.out; omega) (by have := HP7.out.lo; have := HNe.out; omega)); have HD8 := Lib.hid (HD7.out.mid (Nat.le_refl _) HM8.out); clear hG hb e0 e1 e2 e3 e4))
                  have hwd : Below w8.heap.size w8 w8.drew := (Below.refl _ _).drew
                  have HPd := Lib.hid (HP8.out.step hwd)
                  have HMd := Lib.hid (HM8.out.step hwd)
                  have HDd := Lib.hid (HD7.out.mid (Nat.le_refl _) HMd.out)
                  have HPs := Lib.hid (HP8.out.hav i j hi hj dx)
                  have HMs := Lib.hid (HM8.out.grown HPs.out.2 (by have := HNe.out; omega))
                  have HPe := Lib.hid (HPs.out.1.step ((Below.refl _ _).drew))
                  have HMe := Lib.hid (HMs.out.step ((Below.refl _ _).drew))
                  have HDe := Lib.hid (HD7.out.mid (Nat.le_refl _) HMe.out)
                  have eH := (HPd.out.hat i j hi hj).1
                  have zH := (HPd.out.hat i j hi hj).2
                  clear hwd
                  go_region_held3 (fun w' => w'.cell? ⟨N, 1, none⟩ = some (.int .i64 (i : Int)) ∧ w'.cell? ⟨N, 2, none⟩ = some (.int .i64 (j : Int)) ∧ w'.cell? ⟨N, 3, none⟩ = some (.int .u32 dx)) (first | exact ⟨HDd.out.c1, HDd.out.c2, HDd.out.c3⟩ | exact ⟨HDe.out.c1, HDe.out.c2, HDe.out.c3⟩ | assumption) (fail)
                  go_wp2_with fail
                  go_meet
                  exact ⟨th, vr, _, HPe.out, HV1.out, HMe.out⟩
            · have t2 : (kd == 2) = false := by simpa using hk2
              exact by as_aux_lemma =>
                have hwd : Below w7.heap.size w7 w7.drew := (Below.refl _ _).drew
                have HPd := Lib.hid (HP7.out.step hwd)
                have HDd : Hid (PDk w7.drew N kd di da dx a2 m c) := Lib.hid (HD7.out.same (hwd.block N HD7.out.lt) hwd.size)
                have HMd := Lib.hid (HM0.out.step hwd)
                have HS4 := Lib.hid (HS.out.below HPd.out.pv.bel).c4
                clear hwd
                cases ti
                · go_wp2_with fail
                  go_region_held3 (fun w' => w'.cell? ⟨P, 0, none⟩ = some (.pointer (some ⟨p, 0, none⟩)) ∧ w'.cell? ⟨N, 1, none⟩ = some (.int .i64 di)) (first | exact ⟨HPd.out.pv.pg.f0, HDd.out.c1⟩ | assumption) (first | (go_at_call 20; (with_reducible refine (agive_no di _ HPd.out.pv.pg.ar HTi (eV (sA A 4)) HS4.out).mono ?_); rintro e w8 ⟨rfl, rfl⟩))
                  go_wp2_with fail
                  go_meet
                  exact ⟨th, vr, W, HPd.out, HV1.out, HMd.out⟩
                · obtain ⟨j, rfl, hj, hjt⟩ := there_nat HTi.out
                  have hb := HVr.out j hj
                  have hv0 : -1000000000 ≤ vr j := by omega
                  have hv1 : vr j ≤ 1000000000 := by omega
                  have HJt := Lib.hid hjt
                  have j0 : (0 : Int) ≤ j := by omega
                  have j1 : (j : Int) < 6 := by omega
                  clear hb hjt
                  go_wp2_with fail
                  go_region_held3 (fun w' => w'.cell? ⟨P, 0, none⟩ = some (.pointer (some ⟨p, 0, none⟩)) ∧ w'.cell? ⟨N, 1, none⟩ = some (.int .i64 (j : Int))) (first | exact ⟨HPd.out.pv.pg.f0, HDd.out.c1⟩ | assumption) (first | (go_at_call 20; (with_reducible refine (agive_ok _ HPd.out.pv.pg.ar j hj HJt (vr j) (Lib.hid rfl) hv0 hv1).mono ?_); rintro e w8 ⟨rfl, hA, hg⟩; have HP8 := Lib.hid (HPd.out.made (HPd.out.pv.pg.turn hA hg) (PBelow.of (G := G) hg (.inl rfl))); have HM8 := Lib.hid (HMd.out.made (PBelow.of (G := G) hg (.inl rfl)) (by have := HPd.out.lo; have := HNe.out; omega) (by have := HPd.out.lo; have := HNe.out; omega)); have HD8 : Hid (PDk w8 N kd (j : Int) da dx a2 m c) := Lib.hid (HDd.out.same (hg.block N HDd.out.lt (fun e => by injection e with e; have := HPd.out.lo; have := HNe.out; omega)) hg.size); have hk8 := And.intro HP8.out.pv.pg.f0 HD8.out.c1; clear hA hg))
                  have e8 := HD8.out.c1
                  have eL := FR.at HP8.out.lv j hj
                  have zL := FR.free HP8.out.lv j
                  have HP9 := Lib.hid (HP8.out.live j hj false)
                  have HM9 := Lib.hid (HM8.out.grown HP9.out.2 (by have := HPd.out.lo; have := HNe.out; omega))
                  go_wp2_with fail
                  go_meet
                  exact ⟨_, _, W, HP9.out.1, fun i hi => by have := HVr.out i hi; unfold upd; split <;> (try subst_vars) <;> omega, HM9.out⟩
        case rest => as_aux_lemma =>
          obtain ⟨th', vr', W', hP, hvr, hM⟩ := hcut
          have HPf := Lib.hid hP
          have HVf := Lib.hid hvr
          have HMf := Lib.hid hM
          clear hP hvr hM HP7
          obtain ⟨tt, HTt⟩ : ∃ tt, Hid (thereB 6 th' id = tt) := ⟨_, Lib.hid rfl⟩
          obtain ⟨tr, HTr⟩ : ∃ tr, Hid (wordB 6 th' id at_ = tr) := ⟨_, Lib.hid rfl⟩
          obtain ⟨xr, HXr⟩ : ∃ xr, Hid ((if tr = true then W' id.toNat at_.toNat else 0) = xr) := ⟨_, Lib.hid rfl⟩
          obtain ⟨ws2, HWs2⟩ : ∃ ws, Hid (wlist 6 th' W' id = ws) := ⟨_, Lib.hid rfl⟩
          obtain ⟨mw2, HMw2⟩ : ∃ mw, Hid (ws2.length = mw) := ⟨_, Lib.hid rfl⟩
          have hmw : mw ≤ 32 := by rw [← HMw.out, ← HWs.out]; exact wlist_len _ _ _ _
          have hmw2 : mw2 ≤ 32 := by rw [← HMw2.out, ← HWs2.out]; exact wlist_len _ _ _ _
          go_upto_region 51 with fail
          go_cut [24] (fun v wx => v = .bool tt ∧ wx = wc)
          case first => as_aux_lemma =>
            by_cases h0 : 0 ≤ id
            · by_cases h1 : id < 6
              · obtain ⟨j, rfl⟩ : ∃ j : Nat, id = j := ⟨id.toNat, by omega⟩
                have hj : j < 6 := by omega
                have eL := FR.at HPf.out.lv j hj
                have E : th' j = tt := by rw [← HTt.out]; unfold thereB; rw [decide_eq_true (by omega)]; simp
                rw [E] at eL
                clear E
                go_wp2_with fail
                go_meet
                exact ⟨rfl, rfl⟩
              · have E : Hid (tt = false) := Lib.hid (by rw [← HTt.out]; unfold thereB; rw [decide_eq_false (by omega)]; rfl)
                go_wp2_with fail
                go_meet
                exact ⟨by rw [E.out], rfl⟩
            · have E : Hid (tt = false) := Lib.hid (by rw [← HTt.out]; unfold thereB; rw [decide_eq_false (by omega)]; rfl)
              go_wp2_with fail
              go_meet
              exact ⟨by rw [E.out], rfl⟩
          obtain ⟨rfl, hwc2⟩ := hcut
          rw [hwc2]
          clear hwc2
          go_upto_region 54 with (first
            | (go_at_call 33; (with_reducible refine (pread_any id at_ tr HTr xr HXr _ HPf.out.pv.pg).mono ?_); rintro e w8 ⟨rfl, rfl⟩)
            | (go_at_call 30; (with_reducible refine (pwords_any id ws2 HWs2 mw2 HMw2 _ HPf.out.pv.pg).mono ?_); rintro e w9 ⟨aw2, cw2, rfl, hr, hb⟩; have HRw2 := Lib.hid hr.ru; have HP9 := Lib.hid (HPf.out.step hb); have HM9 := Lib.hid (HMf.out.step hb); clear hr hb))
          go_cut [264] (fun v wx => v = .bool false ∧ wx = w9)
          case first => as_aux_lemma =>
            have f0 := HP9.out.pv.pg.f0
            have CT := HTt
            by_cases h1 : tr = true
            · subst h1
              obtain ⟨i, j, rfl, rfl, hi, hj, hij⟩ := word_nat HTr.out
              have E : tt = true := by rw [← HTt.out]; unfold thereB; rw [decide_eq_true (by omega)]; simp [hij]
              subst E
              have eH := (HP9.out.hat i j hi hj).1
              have E2 : W' i j = xr := by have := HXr.out; simpa using this
              rw [E2] at eH
              have i0 : (0 : Int) ≤ i := by omega
              have i1 : (i : Int) < 6 := by omega
              have j0 : (0 : Int) ≤ j := by omega
              have j1 : (j : Int) < 32 := by omega
              clear E2
              go_wp2_with (first | (go_at_call 23; (with_reducible refine (athere_is (i : Int) true CT _ HP9.out.pv.pg.ar).mono ?_); rintro e w10 ⟨rfl, rfl⟩))
              go_meet
              exact ⟨rfl, rfl⟩
            · have h1' : tr = false := by simpa using h1
              subst h1'
              cases tt
              · go_wp2_with (first | (go_at_call 23; (with_reducible refine (athere_is id false CT _ HP9.out.pv.pg.ar).mono ?_); rintro e w10 ⟨rfl, rfl⟩))
                go_meet
                exact ⟨rfl, rfl⟩
              · have hn : ¬ (0 ≤ at_ ∧ at_ < 32) := by
                  have := HTr.out
                  unfold wordB at this
                  rw [HTt.out] at this
                  simpa using this
                by_cases h2 : 0 ≤ at_
                · have d0 : decide (0 ≤ at_) = true := decide_eq_true h2
                  have d1 : decide (at_ < 32) = false := decide_eq_false (by omega)
                  clear hn h2
                  go_wp2_with (first | (go_at_call 23; (with_reducible refine (athere_is id true CT _ HP9.out.pv.pg.ar).mono ?_); rintro e w10 ⟨rfl, rfl⟩))
                  go_meet
                  exact ⟨rfl, rfl⟩
                · have d0 : decide (0 ≤ at_) = false := decide_eq_false h2
                  clear hn h2
                  go_wp2_with (first | (go_at_call 23; (with_reducible refine (athere_is id true CT _ HP9.out.pv.pg.ar).mono ?_); rintro e w10 ⟨rfl, rfl⟩))
                  go_meet
                  exact ⟨rfl, rfl⟩
          obtain ⟨rfl, hwc3⟩ := hcut
          rw [hwc3]
          clear hwc3
          go_upto_region 56 with fail
          go_cut [290] (fun v wx => v = .bool false ∧ Below w9.heap.size w9 wx)
          case first => as_aux_lemma =>
            have HC9 := Lib.hid (HC7.out.mid HNe.out.1 HM9.out)
            have HRw9 := Lib.hid (HRw.out.mid HM9.out)
            cases tt
            · have E : mw2 = 0 := by rw [← HMw2.out, ← HWs2.out]; unfold wlist; rw [HTt.out]; rfl
              subst E
              go_wp2_with (first
                | (go_at_call 30; (with_reducible refine (pcwords_any id ws HWs mw HMw _ HC9.out).mono ?_); rintro e w10 ⟨aw3, cw3, rfl, hr, hb⟩; have HRw3 := Lib.hid hr.ru; have HRwa := Lib.hid (HRw9.out.below hb); have HB10 := Lib.hid hb; clear hr hb)
                | (go_at_call 34; (with_reducible refine (samewords_yes aw3 aw cw3 cw mw ws HMw (by omega) _ HRw3.out HRwa.out).mono ?_); rintro e w11 ⟨rfl, hb⟩; have HB11 := Lib.hid (HB10.out.trans (hb.mono HB10.out.size)); clear hb))
              go_meet
              exact ⟨rfl, HB11.out⟩
            · obtain ⟨i, rfl, hi, hit⟩ := there_nat HTt.out
              have E : ws2 = (List.range 32).map (fun j => W' i j) := by rw [← HWs2.out]; unfold wlist; rw [HTt.out, if_pos rfl]; simp
              have E2 : mw2 = 32 := by rw [← HMw2.out, E]; simp
              subst E2
              have i0 : (0 : Int) ≤ i := by omega
              have i1 : (i : Int) < 6 := by omega
              have HRh : Hid (RU w9 (some ⟨H, i * 32, none⟩) ws2) := Lib.hid (by
                intro j hj
                have hj2 : j < 32 := by rw [E] at hj; simpa using hj
                refine ⟨_, rfl, (HP9.out.hv.lt H rfl).2, ?_⟩
                rw [addr_add, (HP9.out.hat i j hi hj2).1, E]
                simp [List.getD, hj2])
              clear E
              go_wp2_with (first
                | (go_at_call 34; (with_reducible refine (samewords_yes aw2 (some ⟨H, i * 32, none⟩) cw2 32 32 ws2 HMw2 (by omega) _ HRw2.out HRh.out).mono ?_); rintro e w10 ⟨rfl, hb⟩; have HB10 := Lib.hid hb; have HC10 : Hid (PcAt w10 w5.heap.size P2 p2 B2 G2 6 c2 q2 th vr W) := Lib.hid (HC7.out.mid HNe.out.1 (HM9.out.step hb)); have HRwa := Lib.hid (HRw9.out.below hb); clear hb)
                | (go_at_call 30; (with_reducible refine (pcwords_any (i : Int) ws HWs mw HMw _ HC10.out).mono ?_); rintro e w11 ⟨aw3, cw3, rfl, hr, hb⟩; have HRw3 := Lib.hid hr.ru; have HRwb := Lib.hid (HRwa.out.below hb); have HB11 := Lib.hid (HB10.out.trans (hb.mono HB10.out.size)); clear hr hb)
                | (go_at_call 34; (with_reducible refine (samewords_yes aw3 aw cw3 cw mw ws HMw (by omega) _ HRw3.out HRwb.out).mono ?_); rintro e w12 ⟨rfl, hb⟩; have HB12 := Lib.hid (HB11.out.trans (hb.mono HB11.out.size)); clear hb))
              go_meet
              exact ⟨rfl, HB12.out⟩
          obtain ⟨rfl, hbz⟩ := hcut
          have HPz := Lib.hid (HP9.out.step hbz)
          clear hbz
          go_wp2_with fail
          go_roundw
          case rel => exact ⟨k + 1, th', vr', W', by omega, by go_num, HPz.out, fun i hi => by have := HVf.out i hi; omega⟩
          case measure => simp [intOf]; omega
    · obtain rfl : k = len := by omega
      have hdd : decide (k < k) = false := by simp
      go_wp2_with fail
      go_ret
      exact ⟨rfl, HP.out.pv.bel⟩
theorem walk_PagePlays (a0 : Option Addr) (len0 cap0 : Nat) (a1 : Int) (a2 : Int) (w : World) (w0 : Reads Tryd.prog w 43 [.slice a0 len0 cap0]) (w1 : (Lit.int .i64 a1).wf = true) (w2 : (Lit.int .i64 a2).wf = true) (hL : laidMetH Tryd.prog Rows.pagePlaysRow.laid w) :
    Calls Tryd.prog 6 #[.slice a0 len0 cap0, .int .i64 a1, .int .i64 a2] w fun e w' => e = .returned (.bool true) ∧ Below w.heap.size w w' := by
  by_cases hl : 60 < len0
  · exact pplays_big a0 len0 cap0 a1 a2 hl w
  · exact pplays_small a0 len0 cap0 a1 a2 (by omega) w w0 _ (sen_of hL (by intro n hn; simp only [List.mem_cons, List.not_mem_nil, or_false] at hn; rcases hn with rfl | rfl | rfl | rfl | rfl | rfl | rfl | rfl | rfl | rfl | rfl | rfl <;> exact ⟨_, by repeat (first | exact List.Mem.head _ | apply List.Mem.tail)⟩))
end Go.Proofs.YtlefmgdfcpnifaaDoor
