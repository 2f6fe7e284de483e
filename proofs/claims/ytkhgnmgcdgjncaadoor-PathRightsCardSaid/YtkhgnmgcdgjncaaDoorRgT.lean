/-
  PaR as one.
-/
import Derived.Test.YtkhgnmgcdgjncaaDoorP9
import Derived.Test.YtkhgnmgcdgjncaaDoorStructs
namespace Go.Proofs.YtkhgnmgcdgjncaaDoor
open Go.ChangeShapes Go.WideShapes Go.ChangeAt Go.RowKit
set_option linter.unusedVariables false
set_option linter.unusedSimpArgs false
def ltB (i : Nat) : Nat → Bool := fun x => decide (x < i)
theorem ltB_0 : ltB 0 = fun _ => false := by funext x; simp [ltB]
theorem ltB_s (i : Nat) : upd (ltB i) i true = ltB (i + 1) := by
  funext x
  by_cases h : x = i
  · subst h
    rw [upd_at]
    simp [ltB]
  · rw [upd_other _ _ _ _ h]
    unfold ltB
    rw [decide_eq_decide]
    omega
def kkOf (k0 k1 k2 k3 k4 : Int) : Nat → Nat → Int := fun _ q => if q = 0 then k0 else if q = 1 then k1 else if q = 2 then k2 else if q = 3 then k3 else k4
theorem srcK1 (w : World) (k0 k1 k2 k3 k4 : Int) (T : TypeId) (B G : Nat) (h1 : B < w.heap.size) (h2 : G < w.heap.size) : SrcK (w.alloc (.cells #[.int .i64 k0, .int .i64 k1, .int .i64 k2, .int .i64 k3, .int .u32 k4] T (0, 0))) (some ⟨w.heap.size, 0, none⟩) 1 (kkOf k0 k1 k2 k3 k4) B G := ⟨fun i hi => by
  obtain rfl : i = 0 := by omega
  refine ⟨_, rfl, by simp, by simp; omega, by simp; omega, fun q hq => ?_⟩
  rcases five q hq with rfl | rfl | rfl | rfl | rfl <;> simp [kkOf, kval, Addr.add]⟩
theorem freeB_lt (i j : Nat) : freeB (ltB i) (fun _ => 0) j = !decide (j < i) := by simp [freeB, ltB]
theorem way_step {a b : Shp} {th2 : Nat → Bool} {vr2 : Nat → Int} {W : Nat → Nat → Value} {i : Nat} {k0 k1 k4 r : Int} {ids : List Int} {rof : Bool} (hn : i < a.n) (hi : i < 4)
    (h : ∀ (k3 below : Int) (ro : Bool), (i : Int) < below → Way a b (ltB i) (fun _ => 0) W th2 vr2 k0 k1 0 k3 k4 below 5 ro ids 0 5 ((ro || roB k3) || rof) 0) :
    ∀ (k3 below : Int) (ro : Bool), ((i + 1 : Nat) : Int) < below → Way a b (ltB (i + 1)) (fun _ => 0) (freshV W i (kcs (kkOf k0 k1 0 r k4) 1)) th2 vr2 2 i 0 k3 ((i + 1 : Nat) : Int) below 5 ro ((i : Int) :: ids) 0 5 ((ro || roB k3) || (roB r || rof)) 0 := by
  intro k3 below ro hb
  have e5 : ((5 : Nat) : Int) = 5 := rfl
  have hp : 32 ≤ 2 * 16 ^ (i + 1) := by
    have : i = 0 ∨ i = 1 ∨ i = 2 ∨ i = 3 := by omega
    rcases this with rfl | rfl | rfl | rfl <;> decide
  have hnext := h r ((i + 1 : Nat) : Int) (ro || roB k3) (by omega)
  rw [Bool.or_assoc (ro || roB k3) (roB r) rof] at hnext
  refine .node (i + 1) i 0 5 (2 * 16 ^ (i + 1)) 5 k0 k1 0 r k4 rfl rfl e5.symm (by omega) (by omega) (by omega) ?_ hb rfl hn (by simp [ltB]) (by decide) (by omega) ?_ (hnext.more ?_ rfl)
  · simp [liveB, thereB, ltB, hn]
  · exact freshV_key W i (kkOf k0 k1 0 r k4) 1 0 (by decide)
  · intro x hx ht
    have hxi : x < i := by simpa [ltB] using ht
    exact ⟨by simp [ltB]; omega, fun j y0 y1 y2 y3 y4 hk => freshV_rest W i _ x j (by omega) hk⟩
theorem right_node (i : Nat) (hi : i ≤ 3) (r : Int) (h0 : 0 ≤ r) (h7 : r ≤ 7) : rightB 2 i 0 r ((i + 1 : Nat) : Int) = true := by
  have h8 : r = 0 ∨ r = 1 ∨ r = 2 ∨ r = 3 ∨ r = 4 ∨ r = 5 ∨ r = 6 ∨ r = 7 := by omega
  have h4 : i = 0 ∨ i = 1 ∨ i = 2 ∨ i = 3 := by omega
  rcases h4 with rfl | rfl | rfl | rfl <;> rcases h8 with rfl | rfl | rfl | rfl | rfl | rfl | rfl | rfl <;> decide
set_option maxRecDepth 100000 in
set_option maxHeartbeats 8000000 in
theorem rights_walk (a0 a1 a2 : Int) (w : World) (vs vr : Value) (hE : ErrsAt vs vr w) :
    Calls Tryd.prog 7 #[.int .i64 a0, .int .i64 a1, .int .i64 a2] w fun e w' => e = .returned (.bool true) ∧ Below w.heap.size w w' := by
  have HE := Lib.hid hE
  obtain ⟨d, hd, ed⟩ := and3_in a0
  obtain ⟨e, he, ee⟩ := and3_in a1
  obtain ⟨R, hR, eR⟩ := and7_in a2
  clear hE
  go_enter Tryd.func7, Tryd.ntmps7
  go_upto_region 12 with (first
    | (go_at_call 42; refine (pfirst9_is _).mono ?_; rintro e w1 ⟨rfl, hb1⟩; have HB1 := Lib.hid hb1; clear hb1)
    | (go_at_call 12; (with_reducible refine (snew_ok 4 1 4 1 (Lib.hid rfl) (Lib.hid rfl) (by decide) (by decide) (by decide) (by decide) _).mono ?_); rintro e w2 ⟨S, a, b, rfl, hs, hn, hb⟩; have HN := Lib.hid hn.out; have H2 : Hid (SV w w2 S a b _ _ _ _ _ _) := Lib.hid ⟨HB1.out.trans (hb.mono HB1.out.size), by have := hn.out.2.2; have := HB1.out.size; omega, hs⟩; have s1 := hs.s1; clear hs hb hn)
    | (go_at_call 20; (with_reducible refine (pmake_at 0 (some ⟨w2.heap.size, 0, none⟩) 1 1 [4] (Lib.hid rfl) (by decide) 0 (Lib.hid rfl) (by have := HN.out; omega) (Lib.hid (by decide)) (Lib.hid (by intro i hi; omega)) 0 (Lib.hid rfl) _ (H2.out.st.pg.below ((Below.refl _ _).alloc (Nat.le_refl _) _)) (srcu1 w2 4 _ b.B b.G H2.out.st.pg.ar.lt.2 (H2.out.st.pg.row.lt b.G rfl).2)).mono ?_); rintro e w3 ⟨rfl, hP, hb⟩; have H3 := Lib.hid ((H2.out.step ((Below.refl _ _).alloc (Nat.le_refl _) _)).page hP hb); clear hP hb s1)
    | (go_at_call 35; (with_reducible refine (spagekey_in 0 0 (Lib.hid rfl) (by have := HN.out; omega) (Lib.hid rfl) 0 (Lib.hid rfl) _ H3.out.st).mono ?_); rintro e w4 ⟨rfl, hb⟩; have H4 := Lib.hid (H3.out.step hb); clear hb))
  obtain ⟨w5, hw5⟩ : ∃ w5, w5 = w4.alloc (.cells #[.int .i64 3, .int .i64 0, .int .i64 0, .int .i64 0, .int .u32 0] 25 (0, 0)) := ⟨_, rfl⟩
  rw [← hw5]
  have H5 : Hid (SV w w5 S a b (ltB 0) (fun _ => 0) (fun _ b => zc b) (upd (fun _ => false) 0 true) (fun _ => 0) (fresh (fun _ _ => 0) 0 [4])) := Lib.hid (by rw [hw5, ltB_0]; exact H4.out.step ((Below.refl _ _).alloc (Nat.le_refl _) _))
  have HK5 : Hid (KeyC w5 w4.heap.size 3 0 0 0 0) := Lib.hid (by rw [hw5]; exact KeyC.new _ _ _ _ _ _ _)
  have HLo : Hid (StLo S a b w4.heap.size) := Lib.hid H4.out.st.lo
  have HW4 : Hid (w.heap.size ≤ w4.heap.size) := Lib.hid H4.out.bel.size
  obtain ⟨kb, Hkb⟩ : ∃ kb, Hid (w4.heap.size = kb) := ⟨_, Lib.hid rfl⟩
  rw [Hkb.out] at HK5 HLo HW4 ⊢
  obtain ⟨W2, hW2⟩ : ∃ W2, W2 = fresh (fun _ _ => 0) 0 [4] := ⟨_, rfl⟩
  rw [← hW2] at H5
  clear hw5 hW2 H2 H3 H4 HB1 Hkb
  have HLv : Hid (liveB a b (ltB 0) (fun _ => 0) (upd (fun _ => false) 0 true) (fun _ => 0) 3 0 0 = true) := Lib.hid (by simp [liveB, thereB, upd, HN.out.2.1])
  have eB : Hid (roB R = (bits BinOp.and IntKind.i64 a2 5 != 0)) := Lib.hid (by unfold roB; rw [← eR, and75])
  have HEE := Lib.hid ee
  have HED := Lib.hid ed
  have HER := Lib.hid eR
  clear ed ee
  go_wp2_with fail
  go_loopw [11, 12] (fun rv z wr => ∃ (i : Nat) (W : Nat → Nat → Value) (k0 k1 k4 : Int) (ids : List Int) (rof : Bool), i ≤ d + 1 ∧ z = .int .i64 i ∧ rv = .bool rof ∧ SV w wr S a b (ltB i) (fun _ => 0) W (upd (fun _ => false) 0 true) (fun _ => 0) W2 ∧ KeyC wr kb k0 k1 0 0 k4 ∧ (∀ r : Int, 0 ≤ r → r ≤ 7 → rightB k0 k1 0 r k4 = true) ∧ rof = (decide (e < i) && roB R) ∧ (∀ (k3 below : Int) (ro : Bool), (i : Int) < below → Way a b (ltB i) (fun _ => 0) W (upd (fun _ => false) 0 true) (fun _ => 0) k0 k1 0 k3 k4 below 5 ro ids 0 5 ((ro || roB k3) || rof) 0)) (fun _ z _ => 5 - (intOf z).toNat)
  case atStart =>
    refine ⟨0, _, 3, 0, 0, [], false, by omega, rfl, rfl, H5.out, HK5.out, fun r h0 h7 => ?_, by simp, fun k3 below ro hb => ?_⟩
    · have h8 : r = 0 ∨ r = 1 ∨ r = 2 ∨ r = 3 ∨ r = 4 ∨ r = 5 ∨ r = 6 ∨ r = 7 := by omega
      rcases h8 with rfl | rfl | rfl | rfl | rfl | rfl | rfl | rfl <;> decide
    · rw [Bool.or_false]
      exact .page (by decide) (by decide) HLv.out (by decide)
  case round =>
    obtain ⟨i, W, k0, k1, k4, ids, rof, hi, rfl, rfl, hs, hk, hrt, hrof, hway⟩ := hrel
    have HR := Lib.hid hs
    have HK := Lib.hid hk
    have HRT := Lib.hid hrt
    have HROF := Lib.hid hrof
    have HWAY := Lib.hid hway
    have hsz := hk.lt
    have i0 : (0 : Int) ≤ i := by omega
    clear hs hrt hrof hway
    by_cases hid : i ≤ d
    · have i1 : (i : Int) ≤ d := by omega
      go_upto_if 47 with fail
      go_cut [11] (fun v wx => ∃ (r : Int) (rof' : Bool), v = .bool rof' ∧ 0 ≤ r ∧ r ≤ 7 ∧ SV w wx S a b (ltB i) (fun _ => 0) W (upd (fun _ => false) 0 true) (fun _ => 0) W2 ∧ KeyC wx kb k0 k1 0 r k4 ∧ rof' = (decide (e < i + 1) && roB R) ∧ rof' = (roB r || rof))
      case first =>
        by_cases hie : i = e
        · have ht : ((i : Int) == (e : Int)) = true := by simp; omega
          have HIE := Lib.hid hie
          clear hie
          have c3 := hk.c3
          have f3 := hk.fr 3
          have eR := HER.out
          go_wp2_with fail
          go_meet
          refine ⟨R, _, rfl, by omega, by omega, HR.out.put1 HLo.out kb 3 (Nat.le_refl _) HW4.out _, HK.out.set3 R, ?_, ?_⟩
          · rw [← eB.out, HIE.out]; simp
          · rw [← eB.out, HROF.out, HIE.out]; simp
        · have ht : ((i : Int) == (e : Int)) = false := by simp; omega
          have HIE := Lib.hid hie
          clear hie
          go_wp2_with fail
          go_meet
          refine ⟨0, rof, rfl, by omega, by omega, HR.out, HK.out, ?_, ?_⟩
          · rw [HROF.out]
            congr 1
            rw [decide_eq_decide]
            have := HIE.out
            omega
          · rw [show roB 0 = false by decide, Bool.false_or]
      case rest =>
        obtain ⟨r, rof', rfl, hr0, hr7, hs, hk, hq1, hq2⟩ := hcut
        have HC := Lib.hid hs
        have HKC := Lib.hid hk
        have HQ1 := Lib.hid hq1
        have HQ2 := Lib.hid hq2
        have HSS : Hid (∀ w', Below wc.heap.size wc w' → (World.cell? w' ⟨S, 0, none⟩ = some (.pointer (some ⟨a.P, 0, none⟩)) ∧ World.cell? w' ⟨kb, 0, none⟩ = some (.int .i64 k0) ∧ World.cell? w' ⟨kb, 1, none⟩ = some (.int .i64 k1) ∧ World.cell? w' ⟨kb, 2, none⟩ = some (.int .i64 0) ∧ World.cell? w' ⟨kb, 3, none⟩ = some (.int .i64 r) ∧ World.cell? w' ⟨kb, 4, none⟩ = some (.int .u32 k4))) := Lib.hid (fun w' hb => ⟨(HC.out.step hb).st.s0, (HKC.out.below hb).c0, (HKC.out.below hb).c1, (HKC.out.below hb).c2, (HKC.out.below hb).c3, (HKC.out.below hb).c4⟩)
        clear hs hk hq1 hq2
        go_wp2_with fail
        refine wp_region_noPanic ?_
        refine wp_region_held_drew (S := fun w' => (World.cell? w' ⟨S, 0, none⟩ = some (.pointer (some ⟨a.P, 0, none⟩)) ∧ World.cell? w' ⟨kb, 0, none⟩ = some (.int .i64 k0) ∧ World.cell? w' ⟨kb, 1, none⟩ = some (.int .i64 k1) ∧ World.cell? w' ⟨kb, 2, none⟩ = some (.int .i64 0) ∧ World.cell? w' ⟨kb, 3, none⟩ = some (.int .i64 r) ∧ World.cell? w' ⟨kb, 4, none⟩ = some (.int .u32 k4))) (by kernel_rfl) (HSS.out _ (Below.refl wc.heap.size wc).drew) (fun hHeld => ?_)
        refine wpAnyH_take (i := 0) (v := ?_) (by rfl) (by kernel_rfl) (by kernel_rfl) (by kernel_rfl) (fun _ _ _ h => h) (Or.inl ⟨by kernel_rfl, ?_⟩) (by assumption) ?_; rotate_left 1; (focus (intro w hSw; (try dsimp only at hSw); simp only [List.getElem_toArray, List.getElem_cons_succ, List.getElem_cons_zero]; all_goals go_simp; all_goals (try with_reducible rfl))); (try simp only [Act.put, List.getElem_toArray, List.getElem_cons_succ, List.getElem_cons_zero, List.setIfInBounds_toArray, List.set_cons_zero, List.set_cons_succ])
        refine wpAnyH_take (i := 1) (v := ?_) (by rfl) (by kernel_rfl) (by kernel_rfl) (by kernel_rfl) (fun _ _ _ h => h) (Or.inl ⟨by kernel_rfl, ?_⟩) (by assumption) ?_; rotate_left 1; (focus (intro w hSw; (try dsimp only at hSw); simp only [List.getElem_toArray, List.getElem_cons_succ, List.getElem_cons_zero]; all_goals go_simp; all_goals (try with_reducible rfl))); (try simp only [Act.put, List.getElem_toArray, List.getElem_cons_succ, List.getElem_cons_zero, List.setIfInBounds_toArray, List.set_cons_zero, List.set_cons_succ])
        refine wpAnyH_take (i := 2) (v := ?_) (by rfl) (by kernel_rfl) (by kernel_rfl) (by kernel_rfl) (fun _ _ _ h => h) (Or.inl ⟨by kernel_rfl, ?_⟩) (by assumption) ?_; rotate_left 1; (focus (intro w hSw; (try dsimp only at hSw); simp only [List.getElem_toArray, List.getElem_cons_succ, List.getElem_cons_zero]; all_goals go_simp; all_goals (try with_reducible rfl))); (try simp only [Act.put, List.getElem_toArray, List.getElem_cons_succ, List.getElem_cons_zero, List.setIfInBounds_toArray, List.set_cons_zero, List.set_cons_succ])
        refine wpAnyH_take (i := 3) (v := ?_) (by rfl) (by kernel_rfl) (by kernel_rfl) (by kernel_rfl) (fun _ _ _ h => h) (Or.inl ⟨by kernel_rfl, ?_⟩) (by assumption) ?_; rotate_left 1; (focus (intro w hSw; (try dsimp only at hSw); simp only [List.getElem_toArray, List.getElem_cons_succ, List.getElem_cons_zero]; all_goals go_simp; all_goals (try with_reducible rfl))); (try simp only [Act.put, List.getElem_toArray, List.getElem_cons_succ, List.getElem_cons_zero, List.setIfInBounds_toArray, List.set_cons_zero, List.set_cons_succ])
        refine wpAnyH_take (i := 4) (v := ?_) (by rfl) (by kernel_rfl) (by kernel_rfl) (by kernel_rfl) (fun _ _ _ h => h) (Or.inl ⟨by kernel_rfl, ?_⟩) (by assumption) ?_; rotate_left 1; (focus (intro w hSw; (try dsimp only at hSw); simp only [List.getElem_toArray, List.getElem_cons_succ, List.getElem_cons_zero]; all_goals go_simp; all_goals (try with_reducible rfl))); (try simp only [Act.put, List.getElem_toArray, List.getElem_cons_succ, List.getElem_cons_zero, List.setIfInBounds_toArray, List.set_cons_zero, List.set_cons_succ])
        refine wpAnyH_ready (rs := [5]) (by kernel_rfl) (by simp) ?_; refine AllReadyH.cons (by rfl) (fun K hK => ?_) AllReadyH.nil; rw [if_pos (by kernel_rfl)]; simp only [List.getElem_toArray, List.getElem_cons_succ, List.getElem_cons_zero]
        go_wp2_with fail
        refine hK.out _ _ (HSS.out _ ((Below.refl wc.heap.size wc).alloc (Nat.le_refl _) _).drew) (fun hHeld => ?_)
        clear hK K
        (try simp only [Act.put, List.getElem_toArray, List.getElem_cons_succ, List.getElem_cons_zero, List.setIfInBounds_toArray, List.set_cons_zero, List.set_cons_succ])
        refine wpAnyH_ready (rs := [6]) (by kernel_rfl) (by simp) ?_; refine AllReadyH.cons (by rfl) (fun K hK => ?_) AllReadyH.nil; rw [if_pos (by kernel_rfl)]; simp only [List.getElem_toArray, List.getElem_cons_succ, List.getElem_cons_zero]
        have HD := Lib.hid (HC.out.step (((Below.refl wc.heap.size wc).alloc (Nat.le_refl _) (.cells #[.int .i64 k0, .int .i64 k1, .int .i64 0, .int .i64 r, .int .u32 k4] 25 (0, 0))).drew))
        have HKD := Lib.hid (HKC.out.below (((Below.refl wc.heap.size wc).alloc (Nat.le_refl _) (.cells #[.int .i64 k0, .int .i64 k1, .int .i64 0, .int .i64 r, .int .u32 k4] 25 (0, 0))).drew))
        have HSrc := Lib.hid ((srcK1 wc k0 k1 0 r k4 25 a.B a.G HC.out.st.lo.n.2.2.1 HC.out.st.lo.n.2.2.2).below (Below.refl _ _).drew)
        have HKRi : Hid (∀ x, x < 1 → KRight (kkOf k0 k1 0 r k4) x) := Lib.hid (fun x _ => HRT.out r hr0 hr7)
        have HIN : Hid (i < a.n) := Lib.hid (by have := HN.out; omega)
        have HFY : Hid (freeB (ltB i) (fun _ => 0) i = true) := Lib.hid (by rw [freeB_lt]; simp)
        have HFN : Hid (∀ x, x < i → freeB (ltB i) (fun _ => 0) x = false) := Lib.hid (fun x hx => by rw [freeB_lt]; simp [hx])
        go_wp2_with (first
          | (go_at_call 17; (with_reducible refine (nmake_at i vs vr (some ⟨wc.heap.size, 0, none⟩) 1 1 (kkOf k0 k1 0 r k4) (by decide) HKRi i (Lib.hid rfl) HIN.out HFY HFN 0 (Lib.hid rfl) _ (HE.out.below HD.out.bel) HD.out.st.nd HSrc.out).mono ?_); rintro e w6 ⟨rfl, hM, hb⟩; have H6 : Hid (SV w w6 S a b (ltB (i + 1)) (fun _ => 0) _ (upd (fun _ => false) 0 true) (fun _ => 0) W2) := Lib.hid (by rw [← ltB_s]; exact HD.out.node hM hb); have HK6 := Lib.hid (HKD.out.pbelow hb (by have := HLo.out.n; omega) (by have := HLo.out.n; omega)); clear hM hb))
        refine hK.out _ _ ⟨H6.out.st.s0, HK6.out.c0, HK6.out.c1, HK6.out.c2, HK6.out.c3, HK6.out.c4⟩ (fun hHeld => ?_)
        clear hK K
        (try simp only [Act.put, List.getElem_toArray, List.getElem_cons_succ, List.getElem_cons_zero, List.setIfInBounds_toArray, List.set_cons_zero, List.set_cons_succ])
        refine wpAnyH_done (by kernel_rfl) ?_ _
        refine NoPanic.normal ?_
        have HTI : Hid (ltB (i + 1) i = true) := Lib.hid (by simp [ltB])
        go_wp2_with (first
          | (go_at_call 36; (with_reducible refine (snodekey_in i ((i : Int) + 1) i (Lib.hid rfl) (by omega) (by omega) HIN.out HTI 0 (Lib.hid rfl) _ H6.out.st).mono ?_); rintro e w7 ⟨rfl, hb⟩; have H7 := Lib.hid (H6.out.step hb); have hk7 := HK6.out.below hb; have HK7 := Lib.hid hk7; have z0 := hk7.c0; have z1 := hk7.c1; have z2 := hk7.c2; have z3 := hk7.c3; have z4 := hk7.c4; have f0 := hk7.fr 0; have f1 := hk7.fr 1; have f2 := hk7.fr 2; have f3 := hk7.fr 3; have f4 := hk7.fr 4; clear hb hk7))
        go_roundw
        case rel =>
          refine ⟨i + 1, _, 2, i, ((i + 1 : Nat) : Int), (i : Int) :: ids, rof', by omega, by go_num, rfl, H7.out.put5 HLo.out kb (Nat.le_refl _) HW4.out _ _ _ _ _, ?_, fun x h0 h7 => right_node i (by omega) x h0 h7, HQ1.out, ?_⟩
          · rw [show ((i + 1 : Nat) : Int) = (i : Int) + 1 from by omega]
            exact HK7.out.set 2 i 0 0 _
          · rw [HQ2.out]
            exact way_step HIN.out (by omega) HWAY.out
        case measure => simp [intOf]; omega
    · have i1 : ¬ (i : Int) ≤ d := by omega
      have q0 := hk.c0
      have q1 := hk.c1
      have q2 := hk.c2
      have q3 := hk.c3
      have q4 := hk.c4
      have HWf : Hid (Way a b (ltB i) (fun _ => 0) W (upd (fun _ => false) 0 true) (fun _ => 0) k0 k1 0 0 k4 5 5 false ids 0 5 rof 0) := Lib.hid (by have := HWAY.out 0 5 false (by omega); rwa [show ((false || roB 0) || rof) = rof by simp [show roB 0 = false by decide]] at this)
      go_wp2_with (first
        | (go_at_call 44; (with_reducible refine (pWalk_is k0 k1 0 0 k4 5 ids 0 5 rof 0 HWf _ HR.out.st).mono ?_); rintro e w6 ⟨rfl, hb⟩; have H6 := Lib.hid (HR.out.step hb); clear hb))
      go_ret
      exact ⟨by simp, H6.out.bel.alloc H6.out.bel.size _⟩
theorem walk_PathRights (a0 : Int) (a1 : Int) (a2 : Int) (w : World) (w0 : (Lit.int .i64 a0).wf = true) (w1 : (Lit.int .i64 a1).wf = true) (w2 : (Lit.int .i64 a2).wf = true) (hL : laidMetH Tryd.prog Rows.pathRightsRow.laid w) :
    Calls Tryd.prog 7 #[.int .i64 a0, .int .i64 a1, .int .i64 a2] w fun e w' => e = .returned (.bool true) ∧ Below w.heap.size w w' := by
  obtain ⟨vs, vr, hE⟩ := (errs2 hL ⟨_, by repeat (first | exact List.Mem.head _ | apply List.Mem.tail)⟩ ⟨_, by repeat (first | exact List.Mem.head _ | apply List.Mem.tail)⟩)
  exact rights_walk a0 a1 a2 w vs vr hE
end Go.Proofs.YtkhgnmgcdgjncaaDoor
