/-
  ArenaLeast: the walk.
-/
import Derived.Test.YtlefmgdfcpnifaaDoorArL
import Derived.Deep.DeepCutAuto
import Derived.Deep.Cut
namespace Go.Proofs.YtlefmgdfcpnifaaDoor
open Go.ChangeShapes Go.WideShapes Go.ChangeAt Go.RowKit
set_option linter.unusedVariables false
theorem least_big (n0 : Int) (a : Option Addr) (len cap : Nat) (g1 : -9223372036854775808 ≤ n0) (g2 : n0 ≤ 9223372036854775807) (hl : 30 < len) (hm : len ≤ 9223372036854775807) (w : World) :
    Calls Tryd.prog 5 #[.int .i64 n0, .slice a len cap] w fun e w' => e = .returned (.bool true) ∧ Below w.heap.size w w' := by
  obtain ⟨R, hR, CR⟩ := number_nat n0 30 30 rfl (by decide) (by decide) g1 g2
  have CR' := Lib.hid CR
  have hd : decide ((30 : Int) < (len : Int)) = true := by simp; omega
  clear CR g1 g2
  go_enter Tryd.func5, Tryd.ntmps5
  go_wp2_with (first
    | (go_at_call 14; refine (afirst_is _).mono ?_; rintro e w1 ⟨rfl, hb1⟩; have HB1 := Lib.hid hb1; clear hb1)
    | (go_at_call 26; (with_reducible refine (CR'.out _).mono ?_); rintro e w2 ⟨rfl, rfl⟩))
  go_ret
  exact ⟨rfl, HB1.out⟩
/-- What the law is given: numbers in a row. -/
def Nums (w : World) (a : Option Addr) (len : Nat) (zs : List Int) : Prop := ∀ ad, a = some ad → 0 < len → ad.block < w.heap.size ∧ ∀ i, i < len → w.cell? (ad.add i) = some (.int .i64 (zs.getD i 0)) ∧ -9223372036854775808 ≤ zs.getD i 0 ∧ zs.getD i 0 ≤ 9223372036854775807
theorem add_block' (ad : Addr) (n : Nat) : (ad.add n).block = ad.block := by unfold Addr.add; split <;> rfl
theorem lgive_no {W w : World} {base p B n c F : Nat} {fr th : Nat → Bool} {vr : Nat → Int} (h : LS W w base p B n c F fr th vr) (k : Nat) (v : Value) (hE : Hid (W.cell? ⟨2, 0, none⟩ = some v)) (hEl : 2 < W.heap.size) (ht : Hid (thereB n th (k : Int) = false)) :
    Calls Tryd.prog 20 #[.pointer (some ⟨p, 0, none⟩), .int .i64 k] w fun e w' => e = .returned v ∧ Below w.heap.size w w' :=
  (agive_no (k : Int) w h.vv.ar ht v ((h.vv.bel.cell (p := ⟨2, 0, none⟩) hEl).trans hE.out)).mono fun e w' ⟨he, hw⟩ => ⟨he, by subst hw; exact Below.refl _ _⟩
theorem lkeep {W w w' : World} {base p B n c F k : Nat} {x : Value} {fr th : Nat → Bool} {vr : Nat → Int} (h : LS W w base p B n c F fr th vr ∧ w.cell? ⟨F, k, none⟩ = some x) (hb : Below w.heap.size w w') : LS W w' base p B n c F fr th vr ∧ w'.cell? ⟨F, k, none⟩ = some x := ⟨h.1.step hb, (hb.cell (p := ⟨F, k, none⟩) h.1.fr.lt.2).trans h.2⟩
theorem lgive_ok {W w : World} {base p B n c F : Nat} {fr : Nat → Bool} (h : LS W w base p B n c F fr (thF fr (-1)) (vrF fr)) (k : Nat) (hk : k < n) (hf : fr k = false) :
    Calls Tryd.prog 20 #[.pointer (some ⟨p, 0, none⟩), .int .i64 k] w fun e w' => e = .returned .nilIface ∧ LS W w' base p B n c F fr (upd (thF fr (-1)) k false) (upd (vrF fr) k 1) ∧ w'.cell? ⟨F, k, none⟩ = some (.bool false) := by
  refine (agive_at (k : Int) w h.vv.ar k (Lib.hid rfl) hk (Lib.hid (by simp [thF, hf])) 0 1 (Lib.hid (by simp [vrF, hf])) (by omega) (by omega) (Lib.hid (by decide))).mono fun e w' ⟨he, hA, hg⟩ => ⟨he, h.turn hA hg, ?_⟩
  rw [(h.turn hA hg).fr.at k hk, hf]
theorem th_put (fr : Nat → Bool) (k : Nat) : upd (thF fr (-1)) k false = thF (upd fr k true) (-1) := by
  funext i
  unfold upd thF
  by_cases e : i = k
  · subst e
    simp
    omega
  · simp [e]
theorem vr_put (fr : Nat → Bool) (k : Nat) : upd (vrF fr) k 1 = vrF (upd fr k true) := by
  funext i
  unfold upd vrF
  by_cases e : i = k <;> simp [e]
theorem fr_same (fr : Nat → Bool) (k : Nat) (h : fr k = true) : upd fr k true = fr := by
  funext i
  unfold upd
  by_cases e : i = k
  · subst e
    simp [h]
  · simp [e]
theorem free_last (fr : Nat → Bool) (l : Int) (i : Nat) : freeB (thF fr l) (vrF fr) i = (fr i && decide (l < (i : Int))) := by
  unfold freeB thF vrF
  cases h : fr i
  · simp
  · by_cases e : l < (i : Int)
    · have : ¬ (i : Int) ≤ l := by omega
      simp [e, this]
    · have : (i : Int) ≤ l := by omega
      simp [e, this]
theorem th_last (fr : Nat → Bool) (l : Int) (j : Nat) (hj : freeB (thF fr l) (vrF fr) j = true) (hno : ∀ i, i < j → freeB (thF fr l) (vrF fr) i = false) (i : Nat) : upd (thF fr l) j true i = thF fr (j : Int) i := by
  rw [free_last] at hj
  simp only [Bool.and_eq_true, decide_eq_true_eq] at hj
  unfold upd thF
  by_cases e : i = j
  · subst e
    simp
  · rw [if_neg e]
    by_cases hi : i < j
    · have h := hno i hi
      rw [free_last] at h
      have h2 : (i : Int) ≤ (j : Int) := by omega
      cases hf : fr i
      · simp
      · rw [hf] at h
        simp only [Bool.true_and, decide_eq_false_iff_not] at h
        have : (i : Int) ≤ l := by omega
        simp [this, h2]
    · have h1 : ¬ (i : Int) ≤ l := by omega
      have h2 : ¬ (i : Int) ≤ (j : Int) := by omega
      simp [h1, h2]
      try omega
theorem cnt_pos (P : Nat → Bool) (n j : Nat) (hj : j < n) (h : P j = true) : 0 < cntB P n := by
  induction n with
  | zero => omega
  | succ n ih =>
    unfold cntB
    by_cases e : j = n
    · subst e
      rw [if_pos h]
      omega
    · have := ih (by omega)
      omega
set_option maxRecDepth 100000 in
set_option maxHeartbeats 8000000 in
theorem least_small (n0 : Int) (a : Option Addr) (len cap : Nat) (zs : List Int) (g1 : -9223372036854775808 ≤ n0) (g2 : n0 ≤ 9223372036854775807) (hl : len ≤ 30) (w : World) (vN : Addr) (tp : TypeId) (hE : w.cell? ⟨2, 0, none⟩ = some (.iface tp (.pointer (some vN)))) (hEl : 2 < w.heap.size) (ha0 : a = none → len = 0) (hN : Nums w a len zs) :
    Calls Tryd.prog 5 #[.int .i64 n0, .slice a len cap] w fun e w' => e = .returned (.bool true) ∧ Below w.heap.size w w' := by
  obtain ⟨R, hR, CR⟩ := number_nat n0 30 30 rfl (by decide) (by decide) g1 g2
  have CR' := Lib.hid CR
  have HN := Lib.hid hN
  have HE := Lib.hid hE
  have HA0 := Lib.hid ha0
  have hd : decide ((30 : Int) < (len : Int)) = false := by simp; omega
  obtain ⟨i0, hi, hz0, hz1, hz2⟩ := info_parts infoBool
  have HI := Lib.hid (⟨hi, hz0, hz1, hz2⟩ : Tryd.prog.info? 4 = some i0 ∧ i0.zero = some (.bool false) ∧ i0.size = 1 ∧ i0.bytes = 1)
  clear CR g1 g2 hN hE ha0 hi hz0 hz1 hz2
  go_enter Tryd.func5, Tryd.ntmps5
  go_wp2_with (first
    | (go_at_call 14; refine (afirst_is _).mono ?_; rintro e w1 ⟨rfl, hb1⟩; have HB1 := Lib.hid hb1; clear hb1)
    | (go_at_call 26; (with_reducible refine (CR'.out _).mono ?_); rintro e w2 ⟨rfl, rfl⟩)
    | (go_at_call 15; (with_reducible refine (anew_at _ (R + 1) (Lib.hid (by omega)) (by omega) (by omega) _).mono ?_); rintro e w3 ⟨p, B, rfl, hA, hb⟩; have HV : Hid (VV w w3 w1.heap.size p B (R + 1) (R + 1) (thK 0) (vrM 0 0)) := Lib.hid ⟨HB1.out.trans (hb.mono HB1.out.size), hA.congr (fun i _ => by simp [thK]) (fun i _ => by simp [vrM]), HB1.out.size⟩; clear hA hb))
  go_loopw [8] (fun i wr => ∃ k : Nat, k ≤ R + 1 ∧ i = .int .i64 k ∧ VV w wr w1.heap.size p B (R + 1) (R + 1) (thK k) (vrM 0 0)) (fun i _ => R + 1 - (intOf i).toNat)
  case atStart => exact ⟨0, by omega, rfl, HV.out⟩
  case round =>
    obtain ⟨k, hk, rfl, hV⟩ := hrel
    have HV1 := Lib.hid hV
    clear hV
    by_cases hlt : k < R + 1
    · have HF : Hid (freeB (thK k) (vrM 0 0) k = true) := Lib.hid (by simp [freeB, thK, vrM])
      have HNo : Hid (∀ i, i < k → freeB (thK k) (vrM 0 0) i = false) := Lib.hid (by intro i hi; simp [freeB, thK, hi])
      go_wp2_with (first | (go_at_call 19; (with_reducible refine (atake_at (k : Int) _ HV1.out.ar k (Lib.hid rfl) hlt HF HNo 0 (Lib.hid (by simp [vrM]))).mono ?_); rintro e w5 ⟨rfl, hA2, hg⟩; have HV5 : Hid (VV w w5 w1.heap.size p B (R + 1) (R + 1) (thK (k + 1)) (vrM 0 0)) := Lib.hid ((HV1.out.turn hA2 hg).congr (fun i _ => by unfold upd thK; by_cases e : i = k <;> simp [e] <;> omega) (fun _ _ => rfl)); clear hA2 hg))
      go_roundw
      case rel => exact ⟨k + 1, by omega, by go_num, HV5.out⟩
      case measure => simp [intOf]; omega
    · obtain rfl : k = R + 1 := by omega
      have HV2 : Hid (VV w wr w1.heap.size p B (R + 1) (R + 1) (thF (fun _ => false) (-1)) (vrF (fun _ => false))) := Lib.hid (HV1.out.congr (fun i hi => by simp [thK, thF]; omega) (fun i _ => by simp [vrM, vrF]))
      go_wp2_with (first | (at_make; refine wpList_make_full _ rfl _ _ 30 rfl w.heap.size 4 i0 (.bool false) 1 Tryd.underlying30 HI.out.1 HI.out.2.1 HI.out.2.2.1 .i64 .i64 _ _ (R + 1) rfl rfl ?b0 ?b1 ?b2 ?b3 ?b4 ?_))
      case b2 => rw [HI.out.2.2.2]; omega
      case b3 => unfold maxLen; omega
      case b4 => exact HV2.out.bel.size
      intro w6 hown hgrow
      have HL : Hid (LS w w6 w1.heap.size p B (R + 1) (R + 1) wr.heap.size (fun _ => false) (thF (fun _ => false) (-1)) (vrF (fun _ => false))) := Lib.hid (by
        have hb : Below wr.heap.size wr w6 := (Below.refl _ _).grown hgrow (Nat.le_refl _) (fun k hk => by cases hk)
        have h1 := HV2.out.ar.lt
        have h2 := HV2.out.ar.pl
        refine ⟨HV2.out.step hb, ?_, by omega, by omega⟩
        unfold FR
        have e : ((List.range (R + 1)).map fun i => Value.bool ((fun _ => false : Nat → Bool) i)) = (madeCells #[Value.bool false] (R + 1)).toList := by
          rw [toList_madeCells_one]
          simp [List.map_const']
        rw [e]
        exact hown)
      clear hown hgrow
      go_wp2_with fail
      obtain ⟨F, hF⟩ : ∃ F, F = wr.heap.size := ⟨_, rfl⟩
      rw [← hF]
      have HL0 : Hid (LS w w6 w1.heap.size p B (R + 1) (R + 1) F (fun _ => false) (thF (fun _ => false) (-1)) (vrF (fun _ => false))) := Lib.hid (by rw [hF]; exact HL.out)
      clear hF HL
      go_loopw [10] (fun i wx => ∃ (m : Nat) (fr : Nat → Bool), m ≤ len ∧ i = .int .i64 m ∧ LS w wx w1.heap.size p B (R + 1) (R + 1) F fr (thF fr (-1)) (vrF fr)) (fun i _ => len - (intOf i).toNat)
      case atStart => exact ⟨0, _, by omega, rfl, HL0.out⟩
      case round =>
        obtain ⟨m, fr, hm, rfl, hL⟩ := hrel
        have HL := Lib.hid hL
        clear hL
        by_cases hlt : m < len
        · obtain ⟨ad, rfl⟩ : ∃ ad, a = some ad := by
            cases a with
            | none => have := HA0.out rfl; omega
            | some x => exact ⟨x, rfl⟩
          obtain ⟨hb, hc⟩ := HN.out ad rfl (by omega)
          obtain ⟨hc0, hz1, hz2⟩ := hc m hlt
          have hcell := (HL.out.vv.bel.cell (p := ad.add m) (by rw [add_block']; exact hb)).trans hc0
          generalize zs.getD m 0 = z at hcell hz1 hz2
          obtain ⟨k, hk, CK⟩ := number_nat z ((R : Int) + 1) (R + 1) (by omega) (by omega) (by omega) hz1 hz2
          have CK' := Lib.hid CK
          have k0 : (0 : Int) ≤ k := by omega
          have k1 : (k : Int) < (R : Int) + 1 := by omega
          clear CK hb hc hc0 hz1 hz2
          go_upto_region 19 with (first | (go_at_call 26; (with_reducible refine (CK'.out _).mono ?_); rintro e w7 ⟨rfl, rfl⟩))
          cases hfr : fr k
          · have CG := Lib.hid (lgive_ok (HL.out.step ((Below.refl _ wr).drew)) k hk hfr)
            have ST : Hid (wr.drew.cell? ⟨F, k, none⟩ = some (.bool false)) := Lib.hid (by rw [(HL.out.step ((Below.refl _ wr).drew)).fr.at k hk, hfr])
            clear hcell
            go_region_held3 (fun w' => w'.cell? ⟨F, k, none⟩ = some (.bool false)) (first | exact ST.out | assumption) (first | (go_at_call 20; (with_reducible refine CG.out.mono ?_); rintro e w' ⟨rfl, hL2, hb⟩; have HL2 := Lib.hid hL2; clear hL2))
            have hcF := HL2.out.fr.at k hk
            have hzF := HL2.out.fr.free k
            have HL3 : Hid (LS w (w'.setCell ⟨F, k, none⟩ (.bool true)) w1.heap.size p B (R + 1) (R + 1) F (upd fr k true) (thF (upd fr k true) (-1)) (vrF (upd fr k true))) := Lib.hid (by rw [← th_put, ← vr_put]; exact HL2.out.put k hk true)
            go_wp2_with fail
            go_roundw
            case rel => exact ⟨m + 1, upd fr k true, by omega, by go_num, HL3.out⟩
            case measure => simp [intOf]; omega
          · have ST : Hid (LS w wr.drew w1.heap.size p B (R + 1) (R + 1) F fr (thF fr (-1)) (vrF fr) ∧ wr.drew.cell? ⟨F, k, none⟩ = some (.bool true)) := Lib.hid ⟨HL.out.step ((Below.refl _ wr).drew), by rw [(HL.out.step ((Below.refl _ wr).drew)).fr.at k hk, hfr]⟩
            have HT : Hid (thereB (R + 1) (thF fr (-1)) (k : Int) = false) := Lib.hid (by simp [thereB, thF, hfr]; omega)
            clear hcell
            go_region_held3 (fun w' => LS w w' w1.heap.size p B (R + 1) (R + 1) F fr (thF fr (-1)) (vrF fr) ∧ w'.cell? ⟨F, k, none⟩ = some (.bool true)) (first | exact ST.out | exact lkeep (by assumption) hb) (first | (go_at_call 20; (with_reducible refine (lgive_no (And.left (by assumption)) k _ HE hEl HT).mono ?_); rintro e w' ⟨rfl, hb⟩))
            have hL2 : LS w w' w1.heap.size p B (R + 1) (R + 1) F fr (thF fr (-1)) (vrF fr) := And.left (by assumption)
            have HL2 := Lib.hid hL2
            have hcF := hL2.fr.at k hk
            have hzF := hL2.fr.free k
            have HL3 : Hid (LS w (w'.setCell ⟨F, k, none⟩ (.bool true)) w1.heap.size p B (R + 1) (R + 1) F fr (thF fr (-1)) (vrF fr)) := Lib.hid (by have h := HL2.out.put k hk true; rwa [fr_same fr k hfr] at h)
            clear hL2
            go_wp2_with fail
            go_roundw
            case rel => exact ⟨m + 1, fr, by omega, by go_num, HL3.out⟩
            case measure => simp [intOf]; omega
        · obtain rfl : m = len := by omega
          have hdd : decide (m < m) = false := by simp
          go_wp2_with fail
          go_loopw [12] (fun l wx => ∃ q : Int, -1 ≤ q ∧ q ≤ R ∧ l = .int .i64 q ∧ LS w wx w1.heap.size p B (R + 1) (R + 1) F fr (thF fr q) (vrF fr)) (fun l _ => (R + 1 - intOf l).toNat)
          case atStart => exact ⟨-1, by omega, by omega, rfl, HL.out⟩
          case round =>
            obtain ⟨q, hq1, hq2, rfl, hL⟩ := hrel
            have HLq := Lib.hid hL
            clear hL
            rcases first_at (freeB (thF fr q) (vrF fr)) (R + 1) with hno | ⟨j, hj, hy, hno⟩
            · have H0 : Hid (((cntB (freeB (thF fr q) (vrF fr)) (R + 1) : Nat) : Int) = 0) := Lib.hid (by rw [cnt_none _ _ hno]; rfl)
              have HU : Hid (((cntB (thF fr q) (R + 1) : Nat) : Int) = (R : Int) + 1) := Lib.hid (by
                rw [cntB_congr (Q := fun _ => true) (R + 1) (fun i hi => ?_), cnt_all]
                · omega
                · have h := hno i hi
                  rw [free_last] at h
                  unfold thF
                  cases hf : fr i
                  · rfl
                  · rw [hf] at h
                    simp only [Bool.true_and, decide_eq_false_iff_not] at h
                    simp
                    omega)
              clear hno
              go_wp2_with (first
                | (go_at_call 21; (with_reducible refine (aleft_at 0 _ HLq.out.vv.ar H0).mono ?_); rintro e w8 ⟨rfl, hb⟩; have HL8 := Lib.hid (HLq.out.step hb); clear hb)
                | (go_at_call 18; (with_reducible refine (aused_at ((R : Int) + 1) _ HL8.out.vv.ar HU).mono ?_); rintro e w9 ⟨rfl, hb⟩; have HL9 := Lib.hid (HL8.out.step hb); clear hb))
              go_ret
              exact ⟨by simp, HL9.out.vv.bel⟩
            · have hjl : fr j = true ∧ q < (j : Int) := by
                have h := hy
                rw [free_last] at h
                simpa using h
              obtain ⟨x, hx⟩ : ∃ x : Int, Hid (((cntB (freeB (thF fr q) (vrF fr)) (R + 1) : Nat) : Int) = x) := ⟨_, Lib.hid rfl⟩
              have hx0 : 0 < x := by rw [← hx.out]; have := cnt_pos _ _ j hj hy; omega
              have hdx : decide (0 < x) = true := decide_eq_true hx0
              have HY := Lib.hid hy
              have HNo := Lib.hid hno
              have hfj := Lib.hid hjl.1
              have hqj := hjl.2
              have hdq : decide ((j : Int) ≤ q) = false := decide_eq_false (by omega)
              have k0 : (0 : Int) ≤ j := by omega
              have k1 : (j : Int) < (R : Int) + 1 := by omega
              clear hy hno hjl hx0
              go_wp2_with (first
                | (go_at_call 21; (with_reducible refine (aleft_at x _ HLq.out.vv.ar hx).mono ?_); rintro e w8 ⟨rfl, hb⟩; have HL8 := Lib.hid (HLq.out.step hb); clear hb)
                | (go_at_call 19; (with_reducible refine (atake_at (j : Int) _ HL8.out.vv.ar j (Lib.hid rfl) hj HY HNo 1 (Lib.hid (by unfold vrF; rw [if_pos hfj.out]))).mono ?_); rintro e w9 ⟨rfl, hA3, hg⟩; have HL9 : Hid (LS w w9 w1.heap.size p B (R + 1) (R + 1) F fr (thF fr (j : Int)) (vrF fr)) := Lib.hid ((HL8.out.turn hA3 hg).congr (fun i _ => th_last fr q j HY.out HNo.out i) (fun _ _ => rfl)); have hcF := HL9.out.fr.at j hj; rw [hfj.out] at hcF; clear hA3 hg))
              go_roundw
              case rel => exact ⟨(j : Int), by omega, by omega, rfl, HL9.out⟩
              case measure => simp [intOf]; omega
theorem walk_ArenaLeast (a0 : Int) (a1 : Option Addr) (len1 cap1 : Nat) (z1 : List Int) (w : World) (w0 : (Lit.int .i64 a0).wf = true) (w1 : IsRow .i64 w a1 len1 cap1 z1) (hL : laidMetH Tryd.prog Rows.arenaLeastRow.laid w) :
    Calls Tryd.prog 5 #[.int .i64 a0, .slice a1 len1 cap1] w fun e w' => e = .returned (.bool true) ∧ Below w.heap.size w w' := by
  rw [MakeChecks.laidMetH_plain _ _ _ (by kernel_rfl)] at hL
  have E := errs_are (gs := [2]) hL (by
    intro g hg
    simp at hg
    subst hg
    exact ⟨_, _, by repeat (first | exact List.Mem.head _ | apply List.Mem.tail), gErrNone, tErrNone⟩)
  obtain ⟨s1, s2, -⟩ := E.1 2 (by simp)
  have hm : len1 ≤ 9223372036854775807 := by
    rcases w1 with ⟨-, h, -, -⟩ | ⟨x, -, h1, h2, -⟩
    · omega
    · unfold maxLen at h2; omega
  by_cases hl : 30 < len1
  · exact least_big a0 a1 len1 cap1 (i64_fit w0).1 (i64_fit w0).2 hl hm w
  · refine least_small a0 a1 len1 cap1 z1 (i64_fit w0).1 (i64_fit w0).2 (by omega) w _ _ s1 s2 ?_ ?_
    · intro e
      rcases w1 with ⟨-, h, -, -⟩ | ⟨x, h, -⟩
      · exact h
      · rw [e] at h; exact absurd h (by simp)
    · intro ad had h0
      rcases w1 with ⟨h, -, -, -⟩ | ⟨x, h, h1, h2, h3, h4, h5⟩
      · rw [had] at h; exact absurd h (by simp)
      · obtain rfl : x = ad := by rw [h] at had; exact Option.some.inj had
        refine ⟨?_, fun i hi => ?_⟩
        · have hc := h4 0 (by omega)
          rcases Nat.lt_or_ge x.block w.heap.size with h' | h'
          · exact h'
          · have : (x.add 0).block = x.block := add_block' x 0
            simp [World.cell?, this, Array.getElem?_eq_none h'] at hc
        · have hz : z1.getD i 0 ∈ z1 := by
            rw [show z1.getD i 0 = z1[i]'(by omega) by simp [List.getD, show i < z1.length by omega]]
            exact List.getElem_mem _
          exact ⟨h4 i (by omega), (i64_fit (h5 _ hz)).1, (i64_fit (h5 _ hz)).2⟩
end Go.Proofs.YtlefmgdfcpnifaaDoor
