/-
  Wn, Ds3, Ds4, Dq, Yh, Yi, Less, ValidA, ValidB, ValidC, ValidD, ValidE, ValidZ, Orders, RightMath, Ref7, Ol, Kr, Ok, Kb, Mk2, Kc, Kd, Si, Ke, Oi, Om, On: what ObjectKinds reaches of them.
-/
import Derived.Test.YtncopdhhchmpeaaGreatDoorQK2
namespace Go.Proofs.YtncopdhhchmpeaaGreatDoor
open Go.ChangeShapes Go.WideShapes Go.ChangeAt Go.RowKit
set_option linter.unusedVariables false
set_option linter.unusedSimpArgs false
/-- What lies behind all of it stays, and what lies between the domains and the banks. -/
structure UpM (L : BLoc) (w w' : World) : Prop where
  up : UpT L.T w w'
  win : ∀ k, L.dB ≤ k → k < L.bB → k ≠ L.dR → k ≠ L.dG → k < w.heap.size → w'.heap[k]? = w.heap[k]?
section
variable {w0 w w1 w2 : World} {L : BLoc} {D : BSt}
theorem UpM.trans (h : UpM L w w1) (h2 : UpM L w1 w2) : UpM L w w2 := ⟨h.up.trans h2.up, fun k a b c d e => (h2.win k a b c d (Nat.lt_of_lt_of_le e h.up.1)).trans (h.win k a b c d e)⟩
theorem UpM.below (h : Below w.heap.size w w1) : UpM L w w1 := ⟨UpT.below h, fun k _ _ _ _ e => h.block k e⟩
theorem UpM.pb {B G : Nat} (h : PBelow w w1 B G) (h1 : B < L.T) (h2 : G < L.T) (h3 : B < L.dB ∨ L.bB ≤ B ∨ B = L.dR ∨ B = L.dG) (h4 : G < L.dB ∨ L.bB ≤ G ∨ G = L.dR ∨ G = L.dG) : UpM L w w1 := ⟨UpT.pb h h1 h2, fun k a b c d e => h.2.2.2.2 k e (by omega) (by omega)⟩
theorem UpM.grown {g : Nat} (h : w.grownBy w1 (some g)) (h1 : g < L.T) (h3 : g < L.dB ∨ L.bB ≤ g ∨ g = L.dR ∨ g = L.dG) : UpM L w w1 := ⟨UpT.grown h h1, fun k a b c d e => h.block k e (fun x => by injection x with x; omega)⟩
theorem BW.lowD (h : BW w0 w L D) : L.a.B < L.dB ∧ L.a.G < L.dB ∧ L.b.B < L.dB ∧ L.b.G < L.dB ∧ L.bB ≤ L.A ∧ L.bB ≤ L.G1 ∧ L.bB ≤ L.G2 ∧ L.bB ≤ L.G3 ∧ L.bB ≤ L.B := by
  have h1 := h.mm.lo.n
  have h2 := h.mm.lo.p
  have h3 := h.md
  have h4 := h.kk.ac.lt.1
  have h5 := h.kk.t1.lt.1
  have h6 := h.kk.t2.lt.1
  have h7 := h.kk.t3.lt.1
  have h8 := h.kk.ar.lt.1
  omega
end
set_option maxRecDepth 100000 in
set_option maxHeartbeats 2000000 in
theorem bbuyp_w {w0 : World} {L : BLoc} {D : BSt} (q : Nat) (hq : q < D.nb) (x y j : Nat) (v : Int) (pW' : Nat → Nat → Int) (hj : j < L.b.n) (hfull : Hid ((chL D.pr q).any (fullB D.us D.lm) = false)) (hu : Hid (∀ i, i < L.n → -1000000 ≤ D.us i ∧ D.us i ≤ 1000000)) (w : World) (h : BW w0 w L D)
    (hcl : ∀ W, Below w.heap.size w W → Calls Tryz.prog 60 #[.pointer (some ⟨x, 0, none⟩), .pointer (some ⟨y, 0, none⟩)] W fun e w' => e = .returned (.tuple #[.int .i64 j, .int .i64 v, .nilIface]) ∧ BW w0 w' L { D with pt := upd D.pt j true, pW := pW' } ∧ PBelow W w' L.b.B L.b.G) :
    Calls Tryz.prog 49 #[.pointer (some ⟨L.P, 0, none⟩), .int .i64 (q : Int), .slice (some ⟨L.G2, 0, none⟩) 256 256, .nilIface, (Value.func (.func 60) #[] #[.pointer (some ⟨x, 0, none⟩), .pointer (some ⟨y, 0, none⟩)])] w fun e w' => e = .returned (.tuple #[.int .i64 j, .int .i64 v, .nilIface]) ∧ BW w0 w' L (boughtP D q j v pW') ∧ UpM L w w' := by
  have H := Lib.hid h
  have HCl := Lib.hid hcl
  have hn := h.n256
  have hpn := h.pn
  have hnn := h.nn
  have hin := chL_in h.pk h.nn (by omega) q hq
  obtain ⟨l, hl⟩ : ∃ l, Hid (chL D.pr q = l) := ⟨_, Lib.hid rfl⟩
  rw [hl.out] at hin hfull
  obtain ⟨m, hm⟩ : ∃ m, Hid (l.length = m) := ⟨_, Lib.hid rfl⟩
  have hm1 : m ≤ 1000 := by rw [← hm.out]; omega
  have HIn := Lib.hid hin.1
  have HNd := Lib.hid hin.2.2
  have HPk := Lib.hid h.pk
  have HLT := Lib.hid h.lowT
  have HLD := Lib.hid h.lowD
  have HTT := Lib.hid h.tt
  have HTw := Lib.hid h.tw
  have f0 := h.kk.f0
  have k0 : (0 : Int) ≤ j := by omega
  have k1 : (j : Int) < 256 := by omega
  clear h hcl hin
  go_enter Tryz.func49, Tryz.ntmps49
  go_wp2_with (first
    | (go_at_call 63; (with_reducible refine (athere_in q (by omega) true (Lib.hid (thN_at hq)) _ H.out.kk.ar).mono ?_); rintro e w1 ⟨rfl, rfl⟩)
    | (go_at_call 77; (with_reducible refine (bchain_is (q : Int) D.nb (by omega) (by omega) hnn (Lib.hid (fun i hi => thN_at hi)) HPk _ H.out.kk).mono ?_); rintro e w1 ⟨v9, rfl, hr, hb⟩; rw [hl.out] at hr; obtain ⟨a9, c9, hv9⟩ := own_slice hr m hm; have HRw := Lib.hid (rowT hr hv9 hm.out HTw.out); subst hv9; have H1 := Lib.hid (H.out.below hb); have HB1 := Lib.hid hb; clear hr hb f0)
    | (go_at_call 89; (with_reducible refine (bcf_is l m hm hm1 a9 c9 HIn false hfull _ H1.out.kk (fun i hi => by obtain ⟨g, h1, h2, h3, h4⟩ := HRw.out w1 (UpT.refl _ _) i hi; exact ⟨g, h1, h3, h4⟩)).mono ?_); rintro e w2 ⟨rfl, hb⟩; have HB2 := Lib.hid hb; clear hb)
    | (go_at_call 60; (with_reducible refine (HCl.out _ (HB1.out.trans (HB2.out.mono HB1.out.size))).mono ?_); rintro e w3 ⟨rfl, hW, hb⟩; have H3 := Lib.hid hW; have HU3 := Lib.hid ((UpM.below HB2.out).trans (UpM.pb (L := L) hb (by have := HLT.out; omega) (by have := HLT.out; omega) (by have := HLD.out; omega) (by have := HLD.out; omega))); have ht := hW.kk.t2.ti j (by omega); obtain ⟨c0, c1⟩ := ht; have z0 := hW.kk.t2.fr (j * 2); have z1 := hW.kk.t2.fr (j * 2 + 1); have HS := Lib.hid (hW.kk.t2.title j (by omega) q v); have H4 := Lib.hid (hW.kk.ti2 HS.out.1 HS.out.2); have HU4 := Lib.hid (HU3.out.trans (UpM.grown (L := L) HS.out.2 (by have := HTT.out; omega) (by have := HLD.out; omega))); clear hW hb)
    | (go_at_call 76; (with_reducible refine (bcount_is l m hm hm1 a9 c9 HIn HNd 1 (by decide) hu _ H4.out (fun i hi => by obtain ⟨g, h1, h2, h3, h4⟩ := HRw.out _ HU4.out.up i hi; exact ⟨g, h1, h3, by have := HTT.out; omega, h4⟩)).mono ?_); rintro e w5 ⟨rfl, hB, hg⟩; have H5 := Lib.hid hB; have HG5 := Lib.hid hg; clear hB hg c0 c1 z0 z1))
  go_ret3
  refine ⟨rfl, ?_, ((UpM.below HB1.out).trans HU4.out).trans (UpM.grown (L := L) HG5.out (by have := HTT.out; omega) (by have := HLD.out; omega))⟩
  have hlo : Below L.bB w3 w5 := by
    refine (low_of HS.out.2 H3.out.kk.t2.lt.1 H3.out.bl).trans (low_of HG5.out H3.out.kk.ac.lt.1 ?_)
    exact Nat.le_trans H3.out.bl HS.out.2.size
  refine BW.bank H3.out (D' := boughtP D q j v pW') ?_ hlo rfl HPk.out hnn
  have := H5.out
  rw [← hl.out] at this
  exact this
set_option maxRecDepth 100000 in
set_option maxHeartbeats 2000000 in
theorem bpage_w {w0 : World} {L : BLoc} {D : BSt} (q : Nat) (hq : q < D.nb) (a : Option Addr) (m c2 : Nat) (xs : List Int) (hm : Hid (xs.length = m)) (hx0 : m ≤ 32) (j : Nat) (hj : j < L.b.n) (hyes : Hid (freeB D.pt D.pv j = true)) (hno : Hid (∀ i, i < j → freeB D.pt D.pv i = false)) (v : Int) (hv : Hid (D.pv j = v)) (hfull : Hid ((chL D.pr q).any (fullB D.us D.lm) = false)) (hu : Hid (∀ i, i < L.n → -1000000 ≤ D.us i ∧ D.us i ≤ 1000000)) (w : World) (h : BW w0 w L D) (hs : SrcW L w a xs) :
    Calls Tryz.prog 17 #[.pointer (some ⟨L.P, 0, none⟩), .int .i64 (q : Int), .slice a m c2] w fun e w' => e = .returned (.tuple #[.int .i64 j, .int .i64 v, .nilIface]) ∧ BW w0 w' L (boughtP D q j v (fresh D.pW j xs)) ∧ UpM L w w' := by
  have H := Lib.hid h
  have HS := Lib.hid hs
  have HLT := Lib.hid h.lowT
  have HLD := Lib.hid h.lowD
  have HTw := Lib.hid h.tw
  clear h hs
  go_enter Tryz.func17, Tryz.ntmps17
  go_upto_region 1 with fail
  generalize hw2 : World.alloc (World.alloc w _) _ = w2
  have HB2 : Hid (Below w.heap.size w w2) := Lib.hid (by rw [← hw2]; exact ((Below.refl _ _).alloc (Nat.le_refl _) _).alloc (by simp) _)
  have HX : Hid (∀ W, UpT w.heap.size w2 W → World.cell? W ⟨w.heap.size, 0, none⟩ = some (.pointer (some ⟨L.P, 0, none⟩)) ∧ World.cell? W ⟨w.heap.size + 1, 0, none⟩ = some (.slice a m c2)) := Lib.hid (fun W hu => by
    have e1 : w2.cell? ⟨w.heap.size, 0, none⟩ = some (.pointer (some ⟨L.P, 0, none⟩)) := by rw [← hw2]; simp
    have e2 : w2.cell? ⟨w.heap.size + 1, 0, none⟩ = some (.slice a m c2) := by rw [← hw2]; simp
    have sz : w2.heap.size = w.heap.size + 1 + 1 := by rw [← hw2]; simp
    exact ⟨(World.cell?_of_block (a := ⟨w.heap.size, 0, none⟩) (hu.2 w.heap.size (by omega) (by omega))).trans e1, (World.cell?_of_block (a := ⟨w.heap.size + 1, 0, none⟩) (hu.2 (w.heap.size + 1) (by omega) (by omega))).trans e2⟩)
  have HSz : Hid (w2.heap.size = w.heap.size + 1 + 1) := Lib.hid (by rw [← hw2]; simp)
  clear hw2
  obtain ⟨wD, hwD⟩ : ∃ wD, wD = w2.drew := ⟨_, rfl⟩
  have HBD : Hid (Below w2.heap.size w2 wD) := Lib.hid (by rw [hwD]; exact (Below.refl _ _).drew)
  have HS7 : Hid (∀ W D', BW w0 W L D' → UpT w.heap.size w2 W → (World.cell? W ⟨w.heap.size, 0, none⟩ = some (.pointer (some ⟨L.P, 0, none⟩)) ∧ World.cell? W ⟨L.P, 5, none⟩ = some (.slice (some ⟨L.G2, 0, none⟩) 256 256) ∧ World.cell? W ⟨w.heap.size + 1, 0, none⟩ = some (.slice a m c2))) := Lib.hid (fun W D' hW hu => ⟨(HX.out W hu).1, hW.kk.f5, (HX.out W hu).2⟩)
  have HWD := Lib.hid ((H.out.below HB2.out).below HBD.out)
  have hS0 := HS7.out _ _ HWD.out (UpT.below HBD.out)
  refine wp_region_noPanic ?_
  refine wp_region_held_drew (S := fun w' => (World.cell? w' ⟨w.heap.size, 0, none⟩ = some (.pointer (some ⟨L.P, 0, none⟩)) ∧ World.cell? w' ⟨L.P, 5, none⟩ = some (.slice (some ⟨L.G2, 0, none⟩) 256 256) ∧ World.cell? w' ⟨w.heap.size + 1, 0, none⟩ = some (.slice a m c2))) (by kernel_rfl) (by rw [← hwD]; exact hS0) (fun hHeld => ?_)
  rw [← hwD] at hHeld ⊢
  clear hwD hS0
  refine wpAnyH_take (i := 0) (v := ?_) (by rfl) (by kernel_rfl) (by kernel_rfl) (by kernel_rfl) (fun _ _ _ h => h) (Or.inl ⟨by kernel_rfl, ?_⟩) (by assumption) ?_; rotate_left 1; (focus (intro w hSw; (try dsimp only at hSw); simp only [List.getElem_toArray, List.getElem_cons_succ, List.getElem_cons_zero]; all_goals go_simp; all_goals (try with_reducible rfl))); (try simp only [Act.put, List.getElem_toArray, List.getElem_cons_succ, List.getElem_cons_zero, List.setIfInBounds_toArray, List.set_cons_zero, List.set_cons_succ])
  refine wpAnyH_take (i := 1) (v := ?_) (by rfl) (by kernel_rfl) (by kernel_rfl) (by kernel_rfl) (fun _ _ _ h => h) (Or.inl ⟨by kernel_rfl, ?_⟩) (by assumption) ?_; rotate_left 1; (focus (intro w hSw; (try dsimp only at hSw); simp only [List.getElem_toArray, List.getElem_cons_succ, List.getElem_cons_zero]; all_goals go_simp; all_goals (try with_reducible rfl))); (try simp only [Act.put, List.getElem_toArray, List.getElem_cons_succ, List.getElem_cons_zero, List.setIfInBounds_toArray, List.set_cons_zero, List.set_cons_succ])
  refine wpAnyH_take (i := 2) (v := ?_) (by rfl) (by kernel_rfl) (by kernel_rfl) (by kernel_rfl) (fun _ _ _ h => h) (Or.inl ⟨by kernel_rfl, ?_⟩) (by assumption) ?_; rotate_left 1; (focus (intro w hSw; (try dsimp only at hSw); simp only [List.getElem_toArray, List.getElem_cons_succ, List.getElem_cons_zero]; all_goals go_simp; all_goals (try with_reducible rfl))); (try simp only [Act.put, List.getElem_toArray, List.getElem_cons_succ, List.getElem_cons_zero, List.setIfInBounds_toArray, List.set_cons_zero, List.set_cons_succ])
  refine wpAnyH_take (i := 3) (v := ?_) (by rfl) (by kernel_rfl) (by kernel_rfl) (by kernel_rfl) (fun _ _ _ h => h) (Or.inl ⟨by kernel_rfl, ?_⟩) (by assumption) ?_; rotate_left 1; (focus (intro w hSw; (try dsimp only at hSw); simp only [List.getElem_toArray, List.getElem_cons_succ, List.getElem_cons_zero]; all_goals go_simp; all_goals (try with_reducible rfl))); (try simp only [Act.put, List.getElem_toArray, List.getElem_cons_succ, List.getElem_cons_zero, List.setIfInBounds_toArray, List.set_cons_zero, List.set_cons_succ])
  refine wpAnyH_take (i := 4) (v := ?_) (by rfl) (by kernel_rfl) (by kernel_rfl) (by kernel_rfl) (fun _ _ _ h => h) (Or.inl ⟨by kernel_rfl, ?_⟩) (by assumption) ?_; rotate_left 1; (focus (intro w hSw; (try dsimp only at hSw); simp only [List.getElem_toArray, List.getElem_cons_succ, List.getElem_cons_zero]; all_goals go_simp; all_goals (try with_reducible rfl))); (try simp only [Act.put, List.getElem_toArray, List.getElem_cons_succ, List.getElem_cons_zero, List.setIfInBounds_toArray, List.set_cons_zero, List.set_cons_succ])
  refine wpAnyH_take (i := 5) (v := ?_) (by rfl) (by kernel_rfl) (by kernel_rfl) (by kernel_rfl) (fun _ _ _ h => h) (Or.inl ⟨by kernel_rfl, ?_⟩) (by assumption) ?_; rotate_left 1; (focus (intro w hSw; (try dsimp only at hSw); simp only [List.getElem_toArray, List.getElem_cons_succ, List.getElem_cons_zero]; all_goals go_simp; all_goals (try with_reducible rfl))); (try simp only [Act.put, List.getElem_toArray, List.getElem_cons_succ, List.getElem_cons_zero, List.setIfInBounds_toArray, List.set_cons_zero, List.set_cons_succ])
  refine wpAnyH_take (i := 6) (v := ?_) (by rfl) (by kernel_rfl) (by kernel_rfl) (by kernel_rfl) (fun _ _ _ h => h) (Or.inl ⟨by kernel_rfl, ?_⟩) (by assumption) ?_; rotate_left 1; (focus (intro w hSw; (try dsimp only at hSw); simp only [List.getElem_toArray, List.getElem_cons_succ, List.getElem_cons_zero]; all_goals go_simp; all_goals (try with_reducible rfl))); (try simp only [Act.put, List.getElem_toArray, List.getElem_cons_succ, List.getElem_cons_zero, List.setIfInBounds_toArray, List.set_cons_zero, List.set_cons_succ])
  refine wpAnyH_take (i := 8) (v := ?_) (by rfl) (by kernel_rfl) (by kernel_rfl) (by kernel_rfl) (fun _ _ _ h => h) (Or.inl ⟨by kernel_rfl, ?_⟩) (by assumption) ?_; rotate_left 1; (focus (intro w hSw; (try dsimp only at hSw); simp only [List.getElem_toArray, List.getElem_cons_succ, List.getElem_cons_zero]; all_goals go_simp; all_goals (try with_reducible rfl))); (try simp only [Act.put, List.getElem_toArray, List.getElem_cons_succ, List.getElem_cons_zero, List.setIfInBounds_toArray, List.set_cons_zero, List.set_cons_succ])
  refine wpAnyH_ready (rs := [7]) (by kernel_rfl) (by simp) ?_; refine AllReadyH.cons (by rfl) (fun K hK => ?_) AllReadyH.nil; rw [if_pos (by kernel_rfl)]; simp only [List.getElem_toArray, List.getElem_cons_succ, List.getElem_cons_zero]
  go_wp2_with (first
    | (go_at_call 59; (with_reducible refine (bpageof_ok a m c2 xs hm hx0 _ (fun B G hB hG => HS.out.run _ (HB2.out.trans (HBD.out.mono HB2.out.size)) B G (.inr (Nat.le_trans (Nat.le_trans HB2.out.size HBD.out.size) hB)) (.inr (Nat.le_trans (Nat.le_trans HB2.out.size HBD.out.size) hG)))).mono ?_); rintro e w3 ⟨rfl, hb⟩; have HB3 := Lib.hid (HBD.out.trans (hb.mono HBD.out.size)); have HW3 := Lib.hid (HWD.out.below hb); clear hb))
  refine hK.out _ _ (HS7.out _ _ HW3.out (UpT.below HB3.out)) (fun hHeld => ?_)
  clear hK K
  (try simp only [Act.put, List.getElem_toArray, List.getElem_cons_succ, List.getElem_cons_zero, List.setIfInBounds_toArray, List.set_cons_zero, List.set_cons_succ])
  refine wpAnyH_ready (rs := [9]) (by kernel_rfl) (by simp) ?_; refine AllReadyH.cons (by rfl) (fun K hK => ?_) AllReadyH.nil; rw [if_pos (by kernel_rfl)]; simp only [List.getElem_toArray, List.getElem_cons_succ, List.getElem_cons_zero]
  have HCl : Hid (∀ W, Below w3.heap.size w3 W → Calls Tryz.prog 60 #[.pointer (some ⟨w.heap.size, 0, none⟩), .pointer (some ⟨w.heap.size + 1, 0, none⟩)] W fun e w' => e = .returned (.tuple #[.int .i64 j, .int .i64 v, .nilIface]) ∧ BW w0 w' L { D with pt := upd D.pt j true, pW := fresh D.pW j xs } ∧ PBelow W w' L.b.B L.b.G) := Lib.hid (fun W hb => by
    have hbw : Below w2.heap.size w2 W := HB3.out.trans (hb.mono HB3.out.size)
    have hx := HX.out W (UpT.below hbw)
    have h1 := hbw.size
    have h2 := HSz.out
    have h3 := HTw.out
    have h4 := HLT.out
    exact bpgcl_ok w.heap.size (w.heap.size + 1) a m c2 xs hm hx0 j hj hyes hno v hv W (HW3.out.below hb) (by omega) hx.1 hx.2 (HS.out.run W (HB2.out.trans (hbw.mono HB2.out.size)) _ _ (.inl (by omega)) (.inl (by omega))))
  go_wp2_with (first
    | (go_at_call 49; (with_reducible refine (bbuyp_w q hq w.heap.size (w.heap.size + 1) j v _ hj hfull hu _ HW3.out HCl.out).mono ?_); rintro e w4 ⟨rfl, hW, hu4⟩; have HW4 := Lib.hid hW; have HU4 := Lib.hid hu4; clear hW hu4))
  refine hK.out _ _ (HS7.out _ _ HW4.out ((UpT.below HB3.out).trans ⟨HU4.out.up.1, fun k h1 h2 => HU4.out.up.2 k (Nat.le_trans HTw.out h1) h2⟩)) (fun hHeld => ?_)
  clear hK K
  (try simp only [Act.put, List.getElem_toArray, List.getElem_cons_succ, List.getElem_cons_zero, List.setIfInBounds_toArray, List.set_cons_zero, List.set_cons_succ])
  refine wpAnyH_take (i := 10) (v := ?_) (by rfl) (by kernel_rfl) (by kernel_rfl) (by kernel_rfl) (fun _ _ _ h => h) (Or.inl ⟨by kernel_rfl, ?_⟩) (by assumption) ?_; rotate_left 1; (focus (intro w hSw; (try dsimp only at hSw); simp only [List.getElem_toArray, List.getElem_cons_succ, List.getElem_cons_zero]; all_goals go_simp; all_goals (try with_reducible rfl))); (try simp only [Act.put, List.getElem_toArray, List.getElem_cons_succ, List.getElem_cons_zero, List.setIfInBounds_toArray, List.set_cons_zero, List.set_cons_succ])
  refine wpAnyH_take (i := 11) (v := ?_) (by rfl) (by kernel_rfl) (by kernel_rfl) (by kernel_rfl) (fun _ _ _ h => h) (Or.inl ⟨by kernel_rfl, ?_⟩) (by assumption) ?_; rotate_left 1; (focus (intro w hSw; (try dsimp only at hSw); simp only [List.getElem_toArray, List.getElem_cons_succ, List.getElem_cons_zero]; all_goals go_simp; all_goals (try with_reducible rfl))); (try simp only [Act.put, List.getElem_toArray, List.getElem_cons_succ, List.getElem_cons_zero, List.setIfInBounds_toArray, List.set_cons_zero, List.set_cons_succ])
  refine wpAnyH_take (i := 12) (v := ?_) (by rfl) (by kernel_rfl) (by kernel_rfl) (by kernel_rfl) (fun _ _ _ h => h) (Or.inl ⟨by kernel_rfl, ?_⟩) (by assumption) ?_; rotate_left 1; (focus (intro w hSw; (try dsimp only at hSw); simp only [List.getElem_toArray, List.getElem_cons_succ, List.getElem_cons_zero]; all_goals go_simp; all_goals (try with_reducible rfl))); (try simp only [Act.put, List.getElem_toArray, List.getElem_cons_succ, List.getElem_cons_zero, List.setIfInBounds_toArray, List.set_cons_zero, List.set_cons_succ])
  refine wpAnyH_take (i := 13) (v := ?_) (by rfl) (by kernel_rfl) (by kernel_rfl) (by kernel_rfl) (fun _ _ _ h => h) (Or.inl ⟨by kernel_rfl, ?_⟩) (by assumption) ?_; rotate_left 1; (focus (intro w hSw; (try dsimp only at hSw); simp only [List.getElem_toArray, List.getElem_cons_succ, List.getElem_cons_zero]; all_goals go_simp; all_goals (try with_reducible rfl))); (try simp only [Act.put, List.getElem_toArray, List.getElem_cons_succ, List.getElem_cons_zero, List.setIfInBounds_toArray, List.set_cons_zero, List.set_cons_succ])
  refine wpAnyH_take (i := 14) (v := ?_) (by rfl) (by kernel_rfl) (by kernel_rfl) (by kernel_rfl) (fun _ _ _ h => h) (Or.inl ⟨by kernel_rfl, ?_⟩) (by assumption) ?_; rotate_left 1; (focus (intro w hSw; (try dsimp only at hSw); simp only [List.getElem_toArray, List.getElem_cons_succ, List.getElem_cons_zero]; all_goals go_simp; all_goals (try with_reducible rfl))); (try simp only [Act.put, List.getElem_toArray, List.getElem_cons_succ, List.getElem_cons_zero, List.setIfInBounds_toArray, List.set_cons_zero, List.set_cons_succ])
  refine wpAnyH_take (i := 15) (v := ?_) (by rfl) (by kernel_rfl) (by kernel_rfl) (by kernel_rfl) (fun _ _ _ h => h) (Or.inl ⟨by kernel_rfl, ?_⟩) (by assumption) ?_; rotate_left 1; (focus (intro w hSw; (try dsimp only at hSw); simp only [List.getElem_toArray, List.getElem_cons_succ, List.getElem_cons_zero]; all_goals go_simp; all_goals (try with_reducible rfl))); (try simp only [Act.put, List.getElem_toArray, List.getElem_cons_succ, List.getElem_cons_zero, List.setIfInBounds_toArray, List.set_cons_zero, List.set_cons_succ])
  refine wpAnyH_done (by kernel_rfl) ?_ _
  refine NoPanic.normal ?_
  go_wp2_with fail
  go_ret3
  exact ⟨rfl, HW4.out, ((UpM.below HB2.out).trans (UpM.below HB3.out)).trans HU4.out⟩
set_option maxRecDepth 100000 in
set_option maxHeartbeats 2000000 in
theorem bbuyn_w {w0 : World} {L : BLoc} {D : BSt} (q : Nat) (hq : q < D.nb) (x y j : Nat) (v : Int) (nW' : Nat → Nat → Value) (hj : j < L.a.n) (hfull : Hid ((chL D.pr q).any (fullB D.us D.lm) = false)) (hu : Hid (∀ i, i < L.n → -1000000 ≤ D.us i ∧ D.us i ≤ 1000000)) (w : World) (h : BW w0 w L D)
    (hcl : ∀ W, Below w.heap.size w W → Calls Tryz.prog 51 #[.pointer (some ⟨x, 0, none⟩), .pointer (some ⟨y, 0, none⟩)] W fun e w' => e = .returned (.tuple #[.int .i64 j, .int .i64 v, .nilIface]) ∧ BW w0 w' L { D with nt := upd D.nt j true, nW := nW' } ∧ PBelow W w' L.a.B L.a.G) :
    Calls Tryz.prog 49 #[.pointer (some ⟨L.P, 0, none⟩), .int .i64 (q : Int), .slice (some ⟨L.G1, 0, none⟩) 256 256, .nilIface, (Value.func (.func 51) #[] #[.pointer (some ⟨x, 0, none⟩), .pointer (some ⟨y, 0, none⟩)])] w fun e w' => e = .returned (.tuple #[.int .i64 j, .int .i64 v, .nilIface]) ∧ BW w0 w' L (boughtN D q j v nW') ∧ UpM L w w' := by
  have H := Lib.hid h
  have HCl := Lib.hid hcl
  have hn := h.n256
  have hpn := h.an
  have hnn := h.nn
  have hin := chL_in h.pk h.nn (by omega) q hq
  obtain ⟨l, hl⟩ : ∃ l, Hid (chL D.pr q = l) := ⟨_, Lib.hid rfl⟩
  rw [hl.out] at hin hfull
  obtain ⟨m, hm⟩ : ∃ m, Hid (l.length = m) := ⟨_, Lib.hid rfl⟩
  have hm1 : m ≤ 1000 := by rw [← hm.out]; omega
  have HIn := Lib.hid hin.1
  have HNd := Lib.hid hin.2.2
  have HPk := Lib.hid h.pk
  have HLT := Lib.hid h.lowT
  have HLD := Lib.hid h.lowD
  have HTT := Lib.hid h.tt
  have HTw := Lib.hid h.tw
  have f0 := h.kk.f0
  have k0 : (0 : Int) ≤ j := by omega
  have k1 : (j : Int) < 256 := by omega
  clear h hcl hin
  go_enter Tryz.func49, Tryz.ntmps49
  go_wp2_with (first
    | (go_at_call 63; (with_reducible refine (athere_in q (by omega) true (Lib.hid (thN_at hq)) _ H.out.kk.ar).mono ?_); rintro e w1 ⟨rfl, rfl⟩)
    | (go_at_call 77; (with_reducible refine (bchain_is (q : Int) D.nb (by omega) (by omega) hnn (Lib.hid (fun i hi => thN_at hi)) HPk _ H.out.kk).mono ?_); rintro e w1 ⟨v9, rfl, hr, hb⟩; rw [hl.out] at hr; obtain ⟨a9, c9, hv9⟩ := own_slice hr m hm; have HRw := Lib.hid (rowT hr hv9 hm.out HTw.out); subst hv9; have H1 := Lib.hid (H.out.below hb); have HB1 := Lib.hid hb; clear hr hb f0)
    | (go_at_call 89; (with_reducible refine (bcf_is l m hm hm1 a9 c9 HIn false hfull _ H1.out.kk (fun i hi => by obtain ⟨g, h1, h2, h3, h4⟩ := HRw.out w1 (UpT.refl _ _) i hi; exact ⟨g, h1, h3, h4⟩)).mono ?_); rintro e w2 ⟨rfl, hb⟩; have HB2 := Lib.hid hb; clear hb)
    | (go_at_call 51; (with_reducible refine (HCl.out _ (HB1.out.trans (HB2.out.mono HB1.out.size))).mono ?_); rintro e w3 ⟨rfl, hW, hb⟩; have H3 := Lib.hid hW; have HU3 := Lib.hid ((UpM.below HB2.out).trans (UpM.pb (L := L) hb (by have := HLT.out; omega) (by have := HLT.out; omega) (by have := HLD.out; omega) (by have := HLD.out; omega))); have ht := hW.kk.t1.ti j (by omega); obtain ⟨c0, c1⟩ := ht; have z0 := hW.kk.t1.fr (j * 2); have z1 := hW.kk.t1.fr (j * 2 + 1); have HS := Lib.hid (hW.kk.t1.title j (by omega) q v); have H4 := Lib.hid (hW.kk.ti1 HS.out.1 HS.out.2); have HU4 := Lib.hid (HU3.out.trans (UpM.grown (L := L) HS.out.2 (by have := HTT.out; omega) (by have := HLD.out; omega))); clear hW hb)
    | (go_at_call 76; (with_reducible refine (bcount_is l m hm hm1 a9 c9 HIn HNd 1 (by decide) hu _ H4.out (fun i hi => by obtain ⟨g, h1, h2, h3, h4⟩ := HRw.out _ HU4.out.up i hi; exact ⟨g, h1, h3, by have := HTT.out; omega, h4⟩)).mono ?_); rintro e w5 ⟨rfl, hB, hg⟩; have H5 := Lib.hid hB; have HG5 := Lib.hid hg; clear hB hg c0 c1 z0 z1))
  go_ret3
  refine ⟨rfl, ?_, ((UpM.below HB1.out).trans HU4.out).trans (UpM.grown (L := L) HG5.out (by have := HTT.out; omega) (by have := HLD.out; omega))⟩
  have hlo : Below L.bB w3 w5 := by
    refine (low_of HS.out.2 H3.out.kk.t1.lt.1 H3.out.bl).trans (low_of HG5.out H3.out.kk.ac.lt.1 ?_)
    exact Nat.le_trans H3.out.bl HS.out.2.size
  refine BW.bank H3.out (D' := boughtN D q j v nW') ?_ hlo rfl HPk.out hnn
  have := H5.out
  rw [← hl.out] at this
  exact this
set_option maxRecDepth 100000 in
set_option maxHeartbeats 2000000 in
theorem bnode_w {w0 : World} {L : BLoc} {D : BSt} (q : Nat) (hq : q < D.nb) (vs vr : Value) (a : Option Addr) (m c2 : Nat) (kk : Nat → Nat → Int) (hk : Hid (∀ i, i < m → KRight kk i)) (hx0 : m ≤ 16) (j : Nat) (hj : j < L.a.n) (hyes : Hid (freeB D.nt D.nv j = true)) (hno : Hid (∀ i, i < j → freeB D.nt D.nv i = false)) (v : Int) (hv : Hid (D.nv j = v)) (hfull : Hid ((chL D.pr q).any (fullB D.us D.lm) = false)) (hu : Hid (∀ i, i < L.n → -1000000 ≤ D.us i ∧ D.us i ≤ 1000000)) (w : World) (h : BW w0 w L D) (hE : ErrsAt vs vr w) (hs : SrcV L w a m kk) :
    Calls Tryz.prog 15 #[.pointer (some ⟨L.P, 0, none⟩), .int .i64 (q : Int), .slice a m c2] w fun e w' => e = .returned (.tuple #[.int .i64 j, .int .i64 v, .nilIface]) ∧ BW w0 w' L (boughtN D q j v (freshV D.nW j (kcs kk m))) ∧ UpM L w w' := by
  have H := Lib.hid h
  have HS := Lib.hid hs
  have HLT := Lib.hid h.lowT
  have HLD := Lib.hid h.lowD
  have HTw := Lib.hid h.tw
  have HE := Lib.hid hE
  clear h hs hE
  go_enter Tryz.func15, Tryz.ntmps15
  go_upto_region 1 with fail
  generalize hw2 : World.alloc (World.alloc w _) _ = w2
  have HB2 : Hid (Below w.heap.size w w2) := Lib.hid (by rw [← hw2]; exact ((Below.refl _ _).alloc (Nat.le_refl _) _).alloc (by simp) _)
  have HX : Hid (∀ W, UpT w.heap.size w2 W → World.cell? W ⟨w.heap.size, 0, none⟩ = some (.pointer (some ⟨L.P, 0, none⟩)) ∧ World.cell? W ⟨w.heap.size + 1, 0, none⟩ = some (.slice a m c2)) := Lib.hid (fun W hu => by
    have e1 : w2.cell? ⟨w.heap.size, 0, none⟩ = some (.pointer (some ⟨L.P, 0, none⟩)) := by rw [← hw2]; simp
    have e2 : w2.cell? ⟨w.heap.size + 1, 0, none⟩ = some (.slice a m c2) := by rw [← hw2]; simp
    have sz : w2.heap.size = w.heap.size + 1 + 1 := by rw [← hw2]; simp
    exact ⟨(World.cell?_of_block (a := ⟨w.heap.size, 0, none⟩) (hu.2 w.heap.size (by omega) (by omega))).trans e1, (World.cell?_of_block (a := ⟨w.heap.size + 1, 0, none⟩) (hu.2 (w.heap.size + 1) (by omega) (by omega))).trans e2⟩)
  have HSz : Hid (w2.heap.size = w.heap.size + 1 + 1) := Lib.hid (by rw [← hw2]; simp)
  clear hw2
  obtain ⟨wD, hwD⟩ : ∃ wD, wD = w2.drew := ⟨_, rfl⟩
  have HBD : Hid (Below w2.heap.size w2 wD) := Lib.hid (by rw [hwD]; exact (Below.refl _ _).drew)
  have HS7 : Hid (∀ W D', BW w0 W L D' → UpT w.heap.size w2 W → (World.cell? W ⟨w.heap.size, 0, none⟩ = some (.pointer (some ⟨L.P, 0, none⟩)) ∧ World.cell? W ⟨L.P, 4, none⟩ = some (.slice (some ⟨L.G1, 0, none⟩) 256 256) ∧ World.cell? W ⟨w.heap.size + 1, 0, none⟩ = some (.slice a m c2))) := Lib.hid (fun W D' hW hu => ⟨(HX.out W hu).1, hW.kk.f4, (HX.out W hu).2⟩)
  have HWD := Lib.hid ((H.out.below HB2.out).below HBD.out)
  have HEd := Lib.hid ((HE.out.up HB2.out).up HBD.out)
  have hS0 := HS7.out _ _ HWD.out (UpT.below HBD.out)
  refine wp_region_noPanic ?_
  refine wp_region_held_drew (S := fun w' => (World.cell? w' ⟨w.heap.size, 0, none⟩ = some (.pointer (some ⟨L.P, 0, none⟩)) ∧ World.cell? w' ⟨L.P, 4, none⟩ = some (.slice (some ⟨L.G1, 0, none⟩) 256 256) ∧ World.cell? w' ⟨w.heap.size + 1, 0, none⟩ = some (.slice a m c2))) (by kernel_rfl) (by rw [← hwD]; exact hS0) (fun hHeld => ?_)
  rw [← hwD] at hHeld ⊢
  clear hwD hS0
  refine wpAnyH_take (i := 0) (v := ?_) (by rfl) (by kernel_rfl) (by kernel_rfl) (by kernel_rfl) (fun _ _ _ h => h) (Or.inl ⟨by kernel_rfl, ?_⟩) (by assumption) ?_; rotate_left 1; (focus (intro w hSw; (try dsimp only at hSw); simp only [List.getElem_toArray, List.getElem_cons_succ, List.getElem_cons_zero]; all_goals go_simp; all_goals (try with_reducible rfl))); (try simp only [Act.put, List.getElem_toArray, List.getElem_cons_succ, List.getElem_cons_zero, List.setIfInBounds_toArray, List.set_cons_zero, List.set_cons_succ])
  refine wpAnyH_take (i := 1) (v := ?_) (by rfl) (by kernel_rfl) (by kernel_rfl) (by kernel_rfl) (fun _ _ _ h => h) (Or.inl ⟨by kernel_rfl, ?_⟩) (by assumption) ?_; rotate_left 1; (focus (intro w hSw; (try dsimp only at hSw); simp only [List.getElem_toArray, List.getElem_cons_succ, List.getElem_cons_zero]; all_goals go_simp; all_goals (try with_reducible rfl))); (try simp only [Act.put, List.getElem_toArray, List.getElem_cons_succ, List.getElem_cons_zero, List.setIfInBounds_toArray, List.set_cons_zero, List.set_cons_succ])
  refine wpAnyH_take (i := 2) (v := ?_) (by rfl) (by kernel_rfl) (by kernel_rfl) (by kernel_rfl) (fun _ _ _ h => h) (Or.inl ⟨by kernel_rfl, ?_⟩) (by assumption) ?_; rotate_left 1; (focus (intro w hSw; (try dsimp only at hSw); simp only [List.getElem_toArray, List.getElem_cons_succ, List.getElem_cons_zero]; all_goals go_simp; all_goals (try with_reducible rfl))); (try simp only [Act.put, List.getElem_toArray, List.getElem_cons_succ, List.getElem_cons_zero, List.setIfInBounds_toArray, List.set_cons_zero, List.set_cons_succ])
  refine wpAnyH_take (i := 3) (v := ?_) (by rfl) (by kernel_rfl) (by kernel_rfl) (by kernel_rfl) (fun _ _ _ h => h) (Or.inl ⟨by kernel_rfl, ?_⟩) (by assumption) ?_; rotate_left 1; (focus (intro w hSw; (try dsimp only at hSw); simp only [List.getElem_toArray, List.getElem_cons_succ, List.getElem_cons_zero]; all_goals go_simp; all_goals (try with_reducible rfl))); (try simp only [Act.put, List.getElem_toArray, List.getElem_cons_succ, List.getElem_cons_zero, List.setIfInBounds_toArray, List.set_cons_zero, List.set_cons_succ])
  refine wpAnyH_take (i := 4) (v := ?_) (by rfl) (by kernel_rfl) (by kernel_rfl) (by kernel_rfl) (fun _ _ _ h => h) (Or.inl ⟨by kernel_rfl, ?_⟩) (by assumption) ?_; rotate_left 1; (focus (intro w hSw; (try dsimp only at hSw); simp only [List.getElem_toArray, List.getElem_cons_succ, List.getElem_cons_zero]; all_goals go_simp; all_goals (try with_reducible rfl))); (try simp only [Act.put, List.getElem_toArray, List.getElem_cons_succ, List.getElem_cons_zero, List.setIfInBounds_toArray, List.set_cons_zero, List.set_cons_succ])
  refine wpAnyH_take (i := 5) (v := ?_) (by rfl) (by kernel_rfl) (by kernel_rfl) (by kernel_rfl) (fun _ _ _ h => h) (Or.inl ⟨by kernel_rfl, ?_⟩) (by assumption) ?_; rotate_left 1; (focus (intro w hSw; (try dsimp only at hSw); simp only [List.getElem_toArray, List.getElem_cons_succ, List.getElem_cons_zero]; all_goals go_simp; all_goals (try with_reducible rfl))); (try simp only [Act.put, List.getElem_toArray, List.getElem_cons_succ, List.getElem_cons_zero, List.setIfInBounds_toArray, List.set_cons_zero, List.set_cons_succ])
  refine wpAnyH_take (i := 6) (v := ?_) (by rfl) (by kernel_rfl) (by kernel_rfl) (by kernel_rfl) (fun _ _ _ h => h) (Or.inl ⟨by kernel_rfl, ?_⟩) (by assumption) ?_; rotate_left 1; (focus (intro w hSw; (try dsimp only at hSw); simp only [List.getElem_toArray, List.getElem_cons_succ, List.getElem_cons_zero]; all_goals go_simp; all_goals (try with_reducible rfl))); (try simp only [Act.put, List.getElem_toArray, List.getElem_cons_succ, List.getElem_cons_zero, List.setIfInBounds_toArray, List.set_cons_zero, List.set_cons_succ])
  refine wpAnyH_take (i := 8) (v := ?_) (by rfl) (by kernel_rfl) (by kernel_rfl) (by kernel_rfl) (fun _ _ _ h => h) (Or.inl ⟨by kernel_rfl, ?_⟩) (by assumption) ?_; rotate_left 1; (focus (intro w hSw; (try dsimp only at hSw); simp only [List.getElem_toArray, List.getElem_cons_succ, List.getElem_cons_zero]; all_goals go_simp; all_goals (try with_reducible rfl))); (try simp only [Act.put, List.getElem_toArray, List.getElem_cons_succ, List.getElem_cons_zero, List.setIfInBounds_toArray, List.set_cons_zero, List.set_cons_succ])
  refine wpAnyH_ready (rs := [7]) (by kernel_rfl) (by simp) ?_; refine AllReadyH.cons (by rfl) (fun K hK => ?_) AllReadyH.nil; rw [if_pos (by kernel_rfl)]; simp only [List.getElem_toArray, List.getElem_cons_succ, List.getElem_cons_zero]
  go_wp2_with (first
    | (go_at_call 50; (with_reducible refine (bnodeof_ok vs vr a m c2 kk hk hx0 _ HEd.out (fun B G hB hG => HS.out.run _ (HB2.out.trans (HBD.out.mono HB2.out.size)) B G (.inr (Nat.le_trans (Nat.le_trans HB2.out.size HBD.out.size) hB)) (.inr (Nat.le_trans (Nat.le_trans HB2.out.size HBD.out.size) hG)))).mono ?_); rintro e w3 ⟨rfl, hb⟩; have HB3 := Lib.hid (HBD.out.trans (hb.mono HBD.out.size)); have HW3 := Lib.hid (HWD.out.below hb); clear hb))
  refine hK.out _ _ (HS7.out _ _ HW3.out (UpT.below HB3.out)) (fun hHeld => ?_)
  clear hK K
  (try simp only [Act.put, List.getElem_toArray, List.getElem_cons_succ, List.getElem_cons_zero, List.setIfInBounds_toArray, List.set_cons_zero, List.set_cons_succ])
  refine wpAnyH_ready (rs := [9]) (by kernel_rfl) (by simp) ?_; refine AllReadyH.cons (by rfl) (fun K hK => ?_) AllReadyH.nil; rw [if_pos (by kernel_rfl)]; simp only [List.getElem_toArray, List.getElem_cons_succ, List.getElem_cons_zero]
  have HCl : Hid (∀ W, Below w3.heap.size w3 W → Calls Tryz.prog 51 #[.pointer (some ⟨w.heap.size, 0, none⟩), .pointer (some ⟨w.heap.size + 1, 0, none⟩)] W fun e w' => e = .returned (.tuple #[.int .i64 j, .int .i64 v, .nilIface]) ∧ BW w0 w' L { D with nt := upd D.nt j true, nW := freshV D.nW j (kcs kk m) } ∧ PBelow W w' L.a.B L.a.G) := Lib.hid (fun W hb => by
    have hbw : Below w2.heap.size w2 W := HB3.out.trans (hb.mono HB3.out.size)
    have hx := HX.out W (UpT.below hbw)
    have h1 := hbw.size
    have h2 := HSz.out
    have h3 := HTw.out
    have h4 := HLT.out
    exact bndcl_ok w.heap.size (w.heap.size + 1) vs vr a m c2 kk hk hx0 j hj hyes hno v hv W (HW3.out.below hb) (by omega) hx.1 hx.2 ((HE.out.up (HB2.out.trans (hbw.mono HB2.out.size)))) (HS.out.run W (HB2.out.trans (hbw.mono HB2.out.size)) _ _ (.inl (by omega)) (.inl (by omega))))
  go_wp2_with (first
    | (go_at_call 49; (with_reducible refine (bbuyn_w q hq w.heap.size (w.heap.size + 1) j v _ hj hfull hu _ HW3.out HCl.out).mono ?_); rintro e w4 ⟨rfl, hW, hu4⟩; have HW4 := Lib.hid hW; have HU4 := Lib.hid hu4; clear hW hu4))
  refine hK.out _ _ (HS7.out _ _ HW4.out ((UpT.below HB3.out).trans ⟨HU4.out.up.1, fun k h1 h2 => HU4.out.up.2 k (Nat.le_trans HTw.out h1) h2⟩)) (fun hHeld => ?_)
  clear hK K
  (try simp only [Act.put, List.getElem_toArray, List.getElem_cons_succ, List.getElem_cons_zero, List.setIfInBounds_toArray, List.set_cons_zero, List.set_cons_succ])
  refine wpAnyH_take (i := 10) (v := ?_) (by rfl) (by kernel_rfl) (by kernel_rfl) (by kernel_rfl) (fun _ _ _ h => h) (Or.inl ⟨by kernel_rfl, ?_⟩) (by assumption) ?_; rotate_left 1; (focus (intro w hSw; (try dsimp only at hSw); simp only [List.getElem_toArray, List.getElem_cons_succ, List.getElem_cons_zero]; all_goals go_simp; all_goals (try with_reducible rfl))); (try simp only [Act.put, List.getElem_toArray, List.getElem_cons_succ, List.getElem_cons_zero, List.setIfInBounds_toArray, List.set_cons_zero, List.set_cons_succ])
  refine wpAnyH_take (i := 11) (v := ?_) (by rfl) (by kernel_rfl) (by kernel_rfl) (by kernel_rfl) (fun _ _ _ h => h) (Or.inl ⟨by kernel_rfl, ?_⟩) (by assumption) ?_; rotate_left 1; (focus (intro w hSw; (try dsimp only at hSw); simp only [List.getElem_toArray, List.getElem_cons_succ, List.getElem_cons_zero]; all_goals go_simp; all_goals (try with_reducible rfl))); (try simp only [Act.put, List.getElem_toArray, List.getElem_cons_succ, List.getElem_cons_zero, List.setIfInBounds_toArray, List.set_cons_zero, List.set_cons_succ])
  refine wpAnyH_take (i := 12) (v := ?_) (by rfl) (by kernel_rfl) (by kernel_rfl) (by kernel_rfl) (fun _ _ _ h => h) (Or.inl ⟨by kernel_rfl, ?_⟩) (by assumption) ?_; rotate_left 1; (focus (intro w hSw; (try dsimp only at hSw); simp only [List.getElem_toArray, List.getElem_cons_succ, List.getElem_cons_zero]; all_goals go_simp; all_goals (try with_reducible rfl))); (try simp only [Act.put, List.getElem_toArray, List.getElem_cons_succ, List.getElem_cons_zero, List.setIfInBounds_toArray, List.set_cons_zero, List.set_cons_succ])
  refine wpAnyH_take (i := 13) (v := ?_) (by rfl) (by kernel_rfl) (by kernel_rfl) (by kernel_rfl) (fun _ _ _ h => h) (Or.inl ⟨by kernel_rfl, ?_⟩) (by assumption) ?_; rotate_left 1; (focus (intro w hSw; (try dsimp only at hSw); simp only [List.getElem_toArray, List.getElem_cons_succ, List.getElem_cons_zero]; all_goals go_simp; all_goals (try with_reducible rfl))); (try simp only [Act.put, List.getElem_toArray, List.getElem_cons_succ, List.getElem_cons_zero, List.setIfInBounds_toArray, List.set_cons_zero, List.set_cons_succ])
  refine wpAnyH_take (i := 14) (v := ?_) (by rfl) (by kernel_rfl) (by kernel_rfl) (by kernel_rfl) (fun _ _ _ h => h) (Or.inl ⟨by kernel_rfl, ?_⟩) (by assumption) ?_; rotate_left 1; (focus (intro w hSw; (try dsimp only at hSw); simp only [List.getElem_toArray, List.getElem_cons_succ, List.getElem_cons_zero]; all_goals go_simp; all_goals (try with_reducible rfl))); (try simp only [Act.put, List.getElem_toArray, List.getElem_cons_succ, List.getElem_cons_zero, List.setIfInBounds_toArray, List.set_cons_zero, List.set_cons_succ])
  refine wpAnyH_take (i := 15) (v := ?_) (by rfl) (by kernel_rfl) (by kernel_rfl) (by kernel_rfl) (fun _ _ _ h => h) (Or.inl ⟨by kernel_rfl, ?_⟩) (by assumption) ?_; rotate_left 1; (focus (intro w hSw; (try dsimp only at hSw); simp only [List.getElem_toArray, List.getElem_cons_succ, List.getElem_cons_zero]; all_goals go_simp; all_goals (try with_reducible rfl))); (try simp only [Act.put, List.getElem_toArray, List.getElem_cons_succ, List.getElem_cons_zero, List.setIfInBounds_toArray, List.set_cons_zero, List.set_cons_succ])
  refine wpAnyH_done (by kernel_rfl) ?_ _
  refine NoPanic.normal ?_
  go_wp2_with fail
  go_ret3
  exact ⟨rfl, HW4.out, ((UpM.below HB2.out).trans (UpM.below HB3.out)).trans HU4.out⟩
set_option maxRecDepth 100000 in
set_option maxHeartbeats 2000000 in
theorem bbuyd_w {w0 : World} {L : BLoc} {D : BSt} (q : Nat) (hq : q < D.nb) (j : Nat) (v : Int) (hj : j < L.dn) (hyes : Hid (freeB D.dt D.dv j = true)) (hno : Hid (∀ i, i < j → freeB D.dt D.dv i = false)) (hv : Hid (D.dv j = v)) (hfull : Hid ((chL D.pr q).any (fullB D.us D.lm) = false)) (hu : Hid (∀ i, i < L.n → -1000000 ≤ D.us i ∧ D.us i ≤ 1000000)) (w : World) (h : BW w0 w L D) :
    Calls Tryz.prog 49 #[.pointer (some ⟨L.P, 0, none⟩), .int .i64 (q : Int), .slice (some ⟨L.G3, 0, none⟩) 256 256, .nilIface, (Value.func (.func 62) #[.pointer (some ⟨L.dP, 0, none⟩)] #[])] w fun e w' => e = .returned (.tuple #[.int .i64 j, .int .i64 v, .nilIface]) ∧ BW w0 w' L (boughtD D q j v) ∧ UpM L w w' := by
  have H := Lib.hid h
  have hn := h.n256
  have hpn := h.dn256
  have hnn := h.nn
  have hin := chL_in h.pk h.nn (by omega) q hq
  obtain ⟨l, hl⟩ : ∃ l, Hid (chL D.pr q = l) := ⟨_, Lib.hid rfl⟩
  rw [hl.out] at hin hfull
  obtain ⟨m, hm⟩ : ∃ m, Hid (l.length = m) := ⟨_, Lib.hid rfl⟩
  have hm1 : m ≤ 1000 := by rw [← hm.out]; omega
  have HIn := Lib.hid hin.1
  have HNd := Lib.hid hin.2.2
  have HPk := Lib.hid h.pk
  have HLT := Lib.hid h.lowT
  have HLD := Lib.hid h.lowD
  have HTT := Lib.hid h.tt
  have HTw := Lib.hid h.tw
  have f0 := h.kk.f0
  have k0 : (0 : Int) ≤ j := by omega
  have k1 : (j : Int) < 256 := by omega
  clear h hin
  go_enter Tryz.func49, Tryz.ntmps49
  go_wp2_with (first
    | (go_at_call 63; (with_reducible refine (athere_in q (by omega) true (Lib.hid (thN_at hq)) _ H.out.kk.ar).mono ?_); rintro e w1 ⟨rfl, rfl⟩)
    | (go_at_call 77; (with_reducible refine (bchain_is (q : Int) D.nb (by omega) (by omega) hnn (Lib.hid (fun i hi => thN_at hi)) HPk _ H.out.kk).mono ?_); rintro e w1 ⟨v9, rfl, hr, hb⟩; rw [hl.out] at hr; obtain ⟨a9, c9, hv9⟩ := own_slice hr m hm; have HRw := Lib.hid (rowT hr hv9 hm.out HTw.out); subst hv9; have H1 := Lib.hid (H.out.below hb); have HB1 := Lib.hid hb; clear hr hb f0)
    | (go_at_call 89; (with_reducible refine (bcf_is l m hm hm1 a9 c9 HIn false hfull _ H1.out.kk (fun i hi => by obtain ⟨g, h1, h2, h3, h4⟩ := HRw.out w1 (UpT.refl _ _) i hi; exact ⟨g, h1, h3, h4⟩)).mono ?_); rintro e w2 ⟨rfl, hb⟩; have HB2 := Lib.hid hb; clear hb)
    | (go_at_call 62; (with_reducible refine (dmake_ok j hj hyes hno v hv _ (H1.out.below HB2.out).dd).mono ?_); rintro e w3 ⟨rfl, hd, hb⟩; have hW := (H1.out.below HB2.out).doms hd hb; have H3 := Lib.hid hW; have HU3 := Lib.hid ((UpM.below HB2.out).trans (UpM.pb (L := L) hb (by have := HLT.out; omega) (by have := HLT.out; omega) (by have := HLD.out; omega) (by have := HLD.out; omega))); have ht := hW.kk.t3.ti j (by omega); obtain ⟨c0, c1⟩ := ht; have z0 := hW.kk.t3.fr (j * 2); have z1 := hW.kk.t3.fr (j * 2 + 1); have HS := Lib.hid (hW.kk.t3.title j (by omega) q v); have H4 := Lib.hid (hW.kk.ti3 HS.out.1 HS.out.2); have HU4 := Lib.hid (HU3.out.trans (UpM.grown (L := L) HS.out.2 (by have := HTT.out; omega) (by have := HLD.out; omega))); clear hW hb hd)
    | (go_at_call 76; (with_reducible refine (bcount_is l m hm hm1 a9 c9 HIn HNd 1 (by decide) hu _ H4.out (fun i hi => by obtain ⟨g, h1, h2, h3, h4⟩ := HRw.out _ HU4.out.up i hi; exact ⟨g, h1, h3, by have := HTT.out; omega, h4⟩)).mono ?_); rintro e w5 ⟨rfl, hB, hg⟩; have H5 := Lib.hid hB; have HG5 := Lib.hid hg; clear hB hg c0 c1 z0 z1))
  go_ret3
  refine ⟨rfl, ?_, ((UpM.below HB1.out).trans HU4.out).trans (UpM.grown (L := L) HG5.out (by have := HTT.out; omega) (by have := HLD.out; omega))⟩
  have hlo : Below L.bB w3 w5 := by
    refine (low_of HS.out.2 H3.out.kk.t3.lt.1 H3.out.bl).trans (low_of HG5.out H3.out.kk.ac.lt.1 ?_)
    exact Nat.le_trans H3.out.bl HS.out.2.size
  refine BW.bank H3.out (D' := boughtD D q j v) ?_ hlo rfl HPk.out hnn
  have := H5.out
  rw [← hl.out] at this
  exact this
set_option maxRecDepth 100000 in
set_option maxHeartbeats 2000000 in
theorem bdomain_w {w0 : World} {L : BLoc} {D : BSt} (q : Nat) (hq : q < D.nb) (j : Nat) (v : Int) (hj : j < L.dn) (hyes : Hid (freeB D.dt D.dv j = true)) (hno : Hid (∀ i, i < j → freeB D.dt D.dv i = false)) (hv : Hid (D.dv j = v)) (hfull : Hid ((chL D.pr q).any (fullB D.us D.lm) = false)) (hu : Hid (∀ i, i < L.n → -1000000 ≤ D.us i ∧ D.us i ≤ 1000000)) (w : World) (h : BW w0 w L D) :
    Calls Tryz.prog 18 #[.pointer (some ⟨L.P, 0, none⟩), .int .i64 (q : Int)] w fun e w' => e = .returned (.tuple #[.int .i64 j, .int .i64 v, .nilIface]) ∧ BW w0 w' L (boughtD D q j v) ∧ UpM L w w' := by
  obtain ⟨wD, hwD⟩ : ∃ wD, wD = w.drew := ⟨_, rfl⟩
  have HBD : Hid (Below w.heap.size w wD) := Lib.hid (by rw [hwD]; exact (Below.refl _ _).drew)
  have HD := Lib.hid (h.below HBD.out)
  have HTw := Lib.hid h.tw
  clear h
  go_enter Tryz.func18, Tryz.ntmps18
  go_upto_region 1 with fail
  refine wp_region_noPanic ?_
  refine wp_region_held_drew (S := fun w' => (World.cell? w' ⟨L.P, 6, none⟩ = some (.slice (some ⟨L.G3, 0, none⟩) 256 256) ∧ World.cell? w' ⟨L.P, 2, none⟩ = some (.pointer (some ⟨L.dP, 0, none⟩)))) (by kernel_rfl) (by rw [← hwD]; exact ⟨HD.out.kk.f6, HD.out.kk.f2⟩) (fun hHeld => ?_)
  rw [← hwD] at hHeld ⊢
  clear hwD
  refine wpAnyH_take (i := 0) (v := ?_) (by rfl) (by kernel_rfl) (by kernel_rfl) (by kernel_rfl) (fun _ _ _ h => h) (Or.inl ⟨by kernel_rfl, ?_⟩) (by assumption) ?_; rotate_left 1; (focus (intro w hSw; (try dsimp only at hSw); simp only [List.getElem_toArray, List.getElem_cons_succ, List.getElem_cons_zero]; all_goals go_simp; all_goals (try with_reducible rfl))); (try simp only [Act.put, List.getElem_toArray, List.getElem_cons_succ, List.getElem_cons_zero, List.setIfInBounds_toArray, List.set_cons_zero, List.set_cons_succ])
  refine wpAnyH_take (i := 1) (v := ?_) (by rfl) (by kernel_rfl) (by kernel_rfl) (by kernel_rfl) (fun _ _ _ h => h) (Or.inl ⟨by kernel_rfl, ?_⟩) (by assumption) ?_; rotate_left 1; (focus (intro w hSw; (try dsimp only at hSw); simp only [List.getElem_toArray, List.getElem_cons_succ, List.getElem_cons_zero]; all_goals go_simp; all_goals (try with_reducible rfl))); (try simp only [Act.put, List.getElem_toArray, List.getElem_cons_succ, List.getElem_cons_zero, List.setIfInBounds_toArray, List.set_cons_zero, List.set_cons_succ])
  refine wpAnyH_take (i := 2) (v := ?_) (by rfl) (by kernel_rfl) (by kernel_rfl) (by kernel_rfl) (fun _ _ _ h => h) (Or.inl ⟨by kernel_rfl, ?_⟩) (by assumption) ?_; rotate_left 1; (focus (intro w hSw; (try dsimp only at hSw); simp only [List.getElem_toArray, List.getElem_cons_succ, List.getElem_cons_zero]; all_goals go_simp; all_goals (try with_reducible rfl))); (try simp only [Act.put, List.getElem_toArray, List.getElem_cons_succ, List.getElem_cons_zero, List.setIfInBounds_toArray, List.set_cons_zero, List.set_cons_succ])
  refine wpAnyH_take (i := 3) (v := ?_) (by rfl) (by kernel_rfl) (by kernel_rfl) (by kernel_rfl) (fun _ _ _ h => h) (Or.inl ⟨by kernel_rfl, ?_⟩) (by assumption) ?_; rotate_left 1; (focus (intro w hSw; (try dsimp only at hSw); simp only [List.getElem_toArray, List.getElem_cons_succ, List.getElem_cons_zero]; all_goals go_simp; all_goals (try with_reducible rfl))); (try simp only [Act.put, List.getElem_toArray, List.getElem_cons_succ, List.getElem_cons_zero, List.setIfInBounds_toArray, List.set_cons_zero, List.set_cons_succ])
  refine wpAnyH_take (i := 4) (v := ?_) (by rfl) (by kernel_rfl) (by kernel_rfl) (by kernel_rfl) (fun _ _ _ h => h) (Or.inl ⟨by kernel_rfl, ?_⟩) (by assumption) ?_; rotate_left 1; (focus (intro w hSw; (try dsimp only at hSw); simp only [List.getElem_toArray, List.getElem_cons_succ, List.getElem_cons_zero]; all_goals go_simp; all_goals (try with_reducible rfl))); (try simp only [Act.put, List.getElem_toArray, List.getElem_cons_succ, List.getElem_cons_zero, List.setIfInBounds_toArray, List.set_cons_zero, List.set_cons_succ])
  refine wpAnyH_take (i := 5) (v := ?_) (by rfl) (by kernel_rfl) (by kernel_rfl) (by kernel_rfl) (fun _ _ _ h => h) (Or.inl ⟨by kernel_rfl, ?_⟩) (by assumption) ?_; rotate_left 1; (focus (intro w hSw; (try dsimp only at hSw); simp only [List.getElem_toArray, List.getElem_cons_succ, List.getElem_cons_zero]; all_goals go_simp; all_goals (try with_reducible rfl))); (try simp only [Act.put, List.getElem_toArray, List.getElem_cons_succ, List.getElem_cons_zero, List.setIfInBounds_toArray, List.set_cons_zero, List.set_cons_succ])
  refine wpAnyH_take (i := 6) (v := ?_) (by rfl) (by kernel_rfl) (by kernel_rfl) (by kernel_rfl) (fun _ _ _ h => h) (Or.inl ⟨by kernel_rfl, ?_⟩) (by assumption) ?_; rotate_left 1; (focus (intro w hSw; (try dsimp only at hSw); simp only [List.getElem_toArray, List.getElem_cons_succ, List.getElem_cons_zero]; all_goals go_simp; all_goals (try with_reducible rfl))); (try simp only [Act.put, List.getElem_toArray, List.getElem_cons_succ, List.getElem_cons_zero, List.setIfInBounds_toArray, List.set_cons_zero, List.set_cons_succ])
  refine wpAnyH_take (i := 7) (v := ?_) (by rfl) (by kernel_rfl) (by kernel_rfl) (by kernel_rfl) (fun _ _ _ h => h) (Or.inl ⟨by kernel_rfl, ?_⟩) (by assumption) ?_; rotate_left 1; (focus (intro w hSw; (try dsimp only at hSw); simp only [List.getElem_toArray, List.getElem_cons_succ, List.getElem_cons_zero]; all_goals go_simp; all_goals (try with_reducible rfl))); (try simp only [Act.put, List.getElem_toArray, List.getElem_cons_succ, List.getElem_cons_zero, List.setIfInBounds_toArray, List.set_cons_zero, List.set_cons_succ])
  refine wpAnyH_take (i := 8) (v := ?_) (by rfl) (by kernel_rfl) (by kernel_rfl) (by kernel_rfl) (fun _ _ _ h => h) (Or.inl ⟨by kernel_rfl, ?_⟩) (by assumption) ?_; rotate_left 1; (focus (intro w hSw; (try dsimp only at hSw); simp only [List.getElem_toArray, List.getElem_cons_succ, List.getElem_cons_zero]; all_goals go_simp; all_goals (try with_reducible rfl))); (try simp only [Act.put, List.getElem_toArray, List.getElem_cons_succ, List.getElem_cons_zero, List.setIfInBounds_toArray, List.set_cons_zero, List.set_cons_succ])
  refine wpAnyH_take (i := 9) (v := ?_) (by rfl) (by kernel_rfl) (by kernel_rfl) (by kernel_rfl) (fun _ _ _ h => h) (Or.inl ⟨by kernel_rfl, ?_⟩) (by assumption) ?_; rotate_left 1; (focus (intro w hSw; (try dsimp only at hSw); simp only [List.getElem_toArray, List.getElem_cons_succ, List.getElem_cons_zero]; all_goals go_simp; all_goals (try with_reducible rfl))); (try simp only [Act.put, List.getElem_toArray, List.getElem_cons_succ, List.getElem_cons_zero, List.setIfInBounds_toArray, List.set_cons_zero, List.set_cons_succ])
  refine wpAnyH_take (i := 10) (v := ?_) (by rfl) (by kernel_rfl) (by kernel_rfl) (by kernel_rfl) (fun _ _ _ h => h) (Or.inl ⟨by kernel_rfl, ?_⟩) (by assumption) ?_; rotate_left 1; (focus (intro w hSw; (try dsimp only at hSw); simp only [List.getElem_toArray, List.getElem_cons_succ, List.getElem_cons_zero]; all_goals go_simp; all_goals (try with_reducible rfl))); (try simp only [Act.put, List.getElem_toArray, List.getElem_cons_succ, List.getElem_cons_zero, List.setIfInBounds_toArray, List.set_cons_zero, List.set_cons_succ])
  refine wpAnyH_ready (rs := [11]) (by kernel_rfl) (by simp) ?_; refine AllReadyH.cons (by rfl) (fun K hK => ?_) AllReadyH.nil; rw [if_pos (by kernel_rfl)]; simp only [List.getElem_toArray, List.getElem_cons_succ, List.getElem_cons_zero]
  go_wp2_with (first
    | (go_at_call 49; (with_reducible refine (bbuyd_w q hq j v hj hyes hno hv hfull hu _ HD.out).mono ?_); rintro e w4 ⟨rfl, hW, hu4⟩; have HW4 := Lib.hid hW; have HU4 := Lib.hid hu4; clear hW hu4))
  refine hK.out _ _ ⟨HW4.out.kk.f6, HW4.out.kk.f2⟩ (fun hHeld => ?_)
  clear hK K
  (try simp only [Act.put, List.getElem_toArray, List.getElem_cons_succ, List.getElem_cons_zero, List.setIfInBounds_toArray, List.set_cons_zero, List.set_cons_succ])
  refine wpAnyH_take (i := 12) (v := ?_) (by rfl) (by kernel_rfl) (by kernel_rfl) (by kernel_rfl) (fun _ _ _ h => h) (Or.inl ⟨by kernel_rfl, ?_⟩) (by assumption) ?_; rotate_left 1; (focus (intro w hSw; (try dsimp only at hSw); simp only [List.getElem_toArray, List.getElem_cons_succ, List.getElem_cons_zero]; all_goals go_simp; all_goals (try with_reducible rfl))); (try simp only [Act.put, List.getElem_toArray, List.getElem_cons_succ, List.getElem_cons_zero, List.setIfInBounds_toArray, List.set_cons_zero, List.set_cons_succ])
  refine wpAnyH_take (i := 13) (v := ?_) (by rfl) (by kernel_rfl) (by kernel_rfl) (by kernel_rfl) (fun _ _ _ h => h) (Or.inl ⟨by kernel_rfl, ?_⟩) (by assumption) ?_; rotate_left 1; (focus (intro w hSw; (try dsimp only at hSw); simp only [List.getElem_toArray, List.getElem_cons_succ, List.getElem_cons_zero]; all_goals go_simp; all_goals (try with_reducible rfl))); (try simp only [Act.put, List.getElem_toArray, List.getElem_cons_succ, List.getElem_cons_zero, List.setIfInBounds_toArray, List.set_cons_zero, List.set_cons_succ])
  refine wpAnyH_take (i := 14) (v := ?_) (by rfl) (by kernel_rfl) (by kernel_rfl) (by kernel_rfl) (fun _ _ _ h => h) (Or.inl ⟨by kernel_rfl, ?_⟩) (by assumption) ?_; rotate_left 1; (focus (intro w hSw; (try dsimp only at hSw); simp only [List.getElem_toArray, List.getElem_cons_succ, List.getElem_cons_zero]; all_goals go_simp; all_goals (try with_reducible rfl))); (try simp only [Act.put, List.getElem_toArray, List.getElem_cons_succ, List.getElem_cons_zero, List.setIfInBounds_toArray, List.set_cons_zero, List.set_cons_succ])
  refine wpAnyH_take (i := 15) (v := ?_) (by rfl) (by kernel_rfl) (by kernel_rfl) (by kernel_rfl) (fun _ _ _ h => h) (Or.inl ⟨by kernel_rfl, ?_⟩) (by assumption) ?_; rotate_left 1; (focus (intro w hSw; (try dsimp only at hSw); simp only [List.getElem_toArray, List.getElem_cons_succ, List.getElem_cons_zero]; all_goals go_simp; all_goals (try with_reducible rfl))); (try simp only [Act.put, List.getElem_toArray, List.getElem_cons_succ, List.getElem_cons_zero, List.setIfInBounds_toArray, List.set_cons_zero, List.set_cons_succ])
  refine wpAnyH_take (i := 16) (v := ?_) (by rfl) (by kernel_rfl) (by kernel_rfl) (by kernel_rfl) (fun _ _ _ h => h) (Or.inl ⟨by kernel_rfl, ?_⟩) (by assumption) ?_; rotate_left 1; (focus (intro w hSw; (try dsimp only at hSw); simp only [List.getElem_toArray, List.getElem_cons_succ, List.getElem_cons_zero]; all_goals go_simp; all_goals (try with_reducible rfl))); (try simp only [Act.put, List.getElem_toArray, List.getElem_cons_succ, List.getElem_cons_zero, List.setIfInBounds_toArray, List.set_cons_zero, List.set_cons_succ])
  refine wpAnyH_take (i := 17) (v := ?_) (by rfl) (by kernel_rfl) (by kernel_rfl) (by kernel_rfl) (fun _ _ _ h => h) (Or.inl ⟨by kernel_rfl, ?_⟩) (by assumption) ?_; rotate_left 1; (focus (intro w hSw; (try dsimp only at hSw); simp only [List.getElem_toArray, List.getElem_cons_succ, List.getElem_cons_zero]; all_goals go_simp; all_goals (try with_reducible rfl))); (try simp only [Act.put, List.getElem_toArray, List.getElem_cons_succ, List.getElem_cons_zero, List.setIfInBounds_toArray, List.set_cons_zero, List.set_cons_succ])
  refine wpAnyH_done (by kernel_rfl) ?_ _
  refine NoPanic.normal ?_
  go_wp2_with fail
  go_ret3
  exact ⟨rfl, HW4.out, (UpM.below HBD.out).trans HU4.out⟩
theorem BW.opened_w {w0 w w' : World} {L : BLoc} {D : BSt} (h : BW w0 w L D) (y lim : Int) (hy0 : -1 ≤ y) (hy1 : y < D.nb) (hn : D.nb < L.n) (hk : BkAt w' L.bB L.P L.p L.B L.A L.G1 L.G2 L.G3 L.n L.c L.mb L.dP (thN (D.nb + 1)) (fun _ => 0) (upd D.pr D.nb y) (upd D.us D.nb 0) (upd D.lm D.nb lim) D.o1 D.v1 D.o2 D.v2 D.o3 D.v3) (hb : PBelow w w' L.B L.A) : BW w0 w' L (openedB D y lim) ∧ UpM L w w' :=
  ⟨(h.opened y lim hy0 hy1 hn hk hb).1, UpM.pb hb (by have := h.tt; omega) (by have := h.tt; omega) (by have := h.lowD; omega) (by have := h.lowD; omega)⟩
theorem bwroot_w {w0 : World} {L : BLoc} {D : BSt} (lim : Int) (hl0 : 0 ≤ lim) (hl1 : lim ≤ 512) (k : Int) (hk : Hid ((D.nb : Int) = k)) (hn : D.nb < L.n) (w : World) (h : BW w0 w L D) :
    Calls Tryz.prog 12 #[.pointer (some ⟨L.P, 0, none⟩), .int .i64 lim] w fun e w' => e = .returned (.tuple #[.int .i64 k, .int .i64 0, .nilIface]) ∧ BW w0 w' L (openedB D (-1) lim) ∧ UpM L w w' := by
  rw [← hk.out]
  refine broot_of (P := L.P) _ _ _ _ rfl ((bopen_ok (-1) lim (by omega) (by omega) hl0 hl1 hn (Lib.hid h.pk) (Lib.hid (by rw [chL_neg _ _ (by omega)]; decide)) w h.kk).mono fun e w' ⟨h1, h2, h3⟩ => ⟨h1, h.opened_w (-1) lim (by omega) (by omega) hn h2 h3⟩)
end Go.Proofs.YtncopdhhchmpeaaGreatDoor
namespace Go.Proofs.YtncopdhhchmpeaaGreatDoor
open Go.ChangeShapes Go.WideShapes Go.ChangeAt Go.RowKit
set_option linter.unusedVariables false
set_option linter.unusedSimpArgs false
/-- A domain's cells in a row. -/
def rowL (f : Nat → Value) : List Value := (List.range 107).map f
theorem rowL_len (f : Nat → Value) : (rowL f).length = 107 := by simp [rowL]
theorem rowL_size (f : Nat → Value) : (rowL f).toArray.size = 107 := by simp [rowL]
theorem rowL_at (f : Nat → Value) (j : Nat) (hj : j < 107) : (rowL f)[j]? = some (f j) := by simp [rowL, hj]
theorem rowL_src (f : Nat → Value) (j : Nat) (v : Value) (h : (rowL f)[j]? = some v) : j < 107 ∧ v = f j := by
  have hl : j < 107 := by
    have := (List.getElem?_eq_some_iff.1 h).1
    rwa [rowL_len] at this
  rw [rowL_at f j hl] at h
  exact ⟨hl, (Option.some.inj h).symm⟩
theorem rowL_one (f : Nat → Value) (h : ∀ j, j < 107 → (f j).oneCell' = true) : (rowL f).toArray.all (·.oneCell') = true := all_oneCell_toArray (fun v hv => by
  obtain ⟨j, hj, rfl⟩ := List.mem_map.1 hv
  exact h j (by simpa using hj))
theorem dthere_new (w : World) (z : Array Value) (n : Nat) (hz : z.size = n) (T : TypeId) : World.there (w.alloc (.cells z T (0, 0))) w.heap.size 0 n := fun j hj => by
  simp [hz, hj]
theorem dbelow_cells {N b : Nat} {W0 w : World} (h : Below N W0 w) (hb : N ≤ b) : ∀ (cs : List Value) (o : Nat), Below N W0 (w.setCells b o cs) := by
  intro cs
  induction cs generalizing w with
  | nil => intro o; exact h
  | cons u r ih => intro o; exact ih (h.setCell hb u) (o + 1)
theorem dload {W : World} {b : Nat} {f : Nat → Value} (hr : W.rangeAt b 0 (rowL f)) : (loadVar 171 ⟨b, 0, none⟩).run Tryz.prog W = .ok (.agg (rowL f).toArray) W :=
  run_loadVar_mid (P := Tryz.prog) W b 0 171 (rowL f) _ hr Tryz.underlying171 rfl (by rw [rowL_len]; exact infoDomS)
set_option maxRecDepth 100000 in
set_option maxHeartbeats 1000000 in
theorem dget_ok {base P p B G Q n c : Nat} {th : Nat → Bool} {vr_ : Nat → Int} {W : Nat → Nat → Value} (x : Int) (k : Nat) (hx : Hid (x = (k : Int))) (hk : k < n) (ht : Hid (th k = true)) (f : Nat → Value) (hf : Hid (∀ j, j < 107 → W k j = f j)) (ho : Hid (∀ j, j < 107 → (f j).oneCell' = true)) (w : World) (h : DsAt w base P p B G Q n c th vr_ W) :
    Calls Tryz.prog 98 #[.pointer (some ⟨P, 0, none⟩), .int .i64 x] w fun e w' => e = .returned (.tuple #[.agg (rowL f).toArray, .bool true]) ∧ Below w.heap.size w w' := by
  rw [hx.out]
  have H := Lib.hid h
  have k0 : (0 : Int) ≤ k := by omega
  have k1 : (k : Int) < n := by omega
  clear h hx
  go_enter Tryz.func98, Tryz.ntmps98
  go_upto_region 1 with fail
  generalize hA : World.alloc w _ = wA
  have HA : Hid (Below w.heap.size w wA ∧ World.there wA w.heap.size 0 107) := Lib.hid (by rw [← hA]; exact ⟨(Below.refl _ _).alloc (Nat.le_refl _) _, dthere_new _ _ _ (by rfl) _⟩)
  clear hA
  have H1 := Lib.hid (H.out.below HA.out.1)
  have f0 := H1.out.pl.f0
  have f1 := H1.out.pl.f1
  have HRg : Hid (wA.rangeAt G (k * 107) (rowL f)) := Lib.hid (fun j v hv => by
    obtain ⟨hj, rfl⟩ := rowL_src f j v hv
    rw [H1.out.pl.cell k j hk hj, hf.out j hj])
  go_upto_region 3 with (first
    | (go_at_call 63; (with_reducible refine (athere_in k hk true ht _ H1.out.pl.ar).mono ?_); rintro e w1 ⟨rfl, rfl⟩))
  go_wp2_with (first
    | (refine wpList_load_mid (by rfl) _ _ (by rfl) G (k * 107) (by rfl) (rowL f) _ HRg.out Tryz.underlying171 rfl (by rw [rowL_len]; exact infoDomS) ?_)
    | (refine wpList_store_mid (by rfl) _ _ _ (by rfl) w.heap.size 0 (rowL f).toArray (by rfl) (by rfl) HA.out.2 (by rw [rowL_size]; exact infoDomS) (rowL_one f ho.out) ?_))
  have hr : (wA.setCells w.heap.size 0 (rowL f).toArray.toList).rangeAt w.heap.size 0 (rowL f) := World.rangeAt_setCells_same wA w.heap.size 0 (rowL f) (by rw [rowL_len]; exact HA.out.2)
  have hld := dload hr
  refine bodyPost_ret (v := .tuple #[.agg (rowL f).toArray, .bool true]) (by simp [results, Tryz.results98, asAddr, hld]) rfl ⟨rfl, dbelow_cells HA.out.1 (Nat.le_refl _) _ _⟩
section
variable {P : Program}
end
/-- Keys among a domain's cells. -/
def KeysIn (f : Nat → Value) (kk : Nat → Nat → Int) : Prop := ∀ q r, q < 19 → r < 5 → f (11 + (q * 5 + r)) = kval r (kk q r)
end Go.Proofs.YtncopdhhchmpeaaGreatDoor
namespace Go.Proofs.YtncopdhhchmpeaaGreatDoor
open Go.ChangeShapes Go.WideShapes Go.ChangeAt Go.RowKit
set_option linter.unusedVariables false
set_option linter.unusedSimpArgs false
set_option maxHeartbeats 1000000 in
theorem dkeyof_in {base P p B G Q n c : Nat} {th : Nat → Bool} {vr_ : Nat → Int} {W : Nat → Nat → Value} (c0 x d : Int) (k : Nat) (hx : Hid (x = (k : Int))) (hk : k < n) (ht : Hid (th k = true)) (hd : d ≤ 536870911) (v : Int) (hv : Hid (vr_ k = v)) (w : World) (h : DsAt w base P p B G Q n c th vr_ W) :
    Calls Tryz.prog 93 #[.pointer (some ⟨P, 0, none⟩), .int .i64 c0, .int .i64 x, .int .u32 d] w fun e w' => e = .returned (Value.agg #[.int .i64 c0, .int .i64 x, .int .i64 v, .int .i64 0, .int .u32 d]) ∧ Below w.heap.size w w' := by
  have H := Lib.hid (fun o => h.below ((Below.refl _ _).alloc (Nat.le_refl _) _ : Below w.heap.size w (w.alloc o)))
  have f0 := fun o => (h.below ((Below.refl _ _).alloc (Nat.le_refl _) _ : Below w.heap.size w (w.alloc o))).pl.f0
  have d0 : decide (536870911 < d) = false := decide_eq_false (by omega)
  have hkx := hx.out
  subst hkx
  clear h
  go_enter Tryz.func93, Tryz.ntmps93
  go_wp2_with (first
    | (go_at_call 63; (with_reducible refine (athere_in k hk true ht _ (H.out _).pl.ar).mono ?_); rintro e w1 ⟨rfl, rfl⟩)
    | (go_at_call 58; (with_reducible refine (aver_in k hk v hv _ (H.out _).pl.ar).mono ?_); rintro e w1 ⟨rfl, rfl⟩))
  refine bodyPost_ret (v := (Value.agg #[.int .i64 c0, .int .i64 (k : Int), .int .i64 v, .int .i64 0, .int .u32 d])) (by simp [results, Tryz.results93, go_sem]) rfl ⟨rfl, ?_⟩
  exact (Below.refl _ _).alloc (Nat.le_refl _) _
theorem dkey_of {P : Nat} (x : Int) (k0 k1 k2 k3 k4 : Int) (w : World) (h : ∀ W, Below w.heap.size w W → Calls Tryz.prog 93 #[.pointer (some ⟨P, 0, none⟩), .int .i64 4, .int .i64 x, .int .u32 0] W fun e w' => e = .returned (Value.agg #[.int .i64 k0, .int .i64 k1, .int .i64 k2, .int .i64 k3, .int .u32 k4]) ∧ Below W.heap.size W w') :
    Calls Tryz.prog 55 #[.pointer (some ⟨P, 0, none⟩), .int .i64 x] w fun e w' => e = .returned (Value.agg #[.int .i64 k0, .int .i64 k1, .int .i64 k2, .int .i64 k3, .int .u32 k4]) ∧ Below w.heap.size w w' := by
  have HC := Lib.hid h
  clear h
  go_enter Tryz.func55, Tryz.ntmps55
  go_upto_region 1 with fail
  generalize hA : World.alloc w _ = wA
  have HA : Hid (Below w.heap.size w wA ∧ KeyC wA w.heap.size 0 0 0 0 0) := Lib.hid (by rw [← hA]; exact ⟨(Below.refl _ _).alloc (Nat.le_refl _) _, KeyC.new w 0 0 0 0 0 _⟩)
  clear hA
  go_wp2_with (first
    | (go_at_call 93; (with_reducible refine (HC.out _ HA.out.1).mono ?_); rintro e w1 ⟨rfl, hb⟩; have HB := Lib.hid (HA.out.1.trans (hb.mono HA.out.1.size)); have HK := Lib.hid (HA.out.2.below hb); have q0 := HK.out.c0; have q1 := HK.out.c1; have q2 := HK.out.c2; have q3 := HK.out.c3; have q4 := HK.out.c4; have g0 := HK.out.fr 0; have g1 := HK.out.fr 1; have g2 := HK.out.fr 2; have g3 := HK.out.fr 3; have g4 := HK.out.fr 4; clear hb))
  have t := HK.out.set k0 k1 k2 k3 k4
  have t0 := t.c0
  have t1 := t.c1
  have t2 := t.c2
  have t3 := t.c3
  have t4 := t.c4
  refine bodyPost_ret (v := (Value.agg #[.int .i64 k0, .int .i64 k1, .int .i64 k2, .int .i64 k3, .int .u32 k4])) (by simp [results, Tryz.results55, go_sem, t0, t1, t2, t3, t4]) rfl ⟨rfl, ?_⟩
  exact ((((HB.out.setCell (Nat.le_refl _) _).setCell (Nat.le_refl _) _).setCell (Nat.le_refl _) _).setCell (Nat.le_refl _) _).setCell (Nat.le_refl _) _
set_option maxHeartbeats 1000000 in
theorem dresume_no {base P p B G Q n c : Nat} {th : Nat → Bool} {vr_ : Nat → Int} {W : Nat → Nat → Value} (x : Int) (k : Nat) (hx : Hid (x = (k : Int))) (hk : k < n) (ht : Hid (th k = true)) (s : Int) (hs : Hid (W k 9 = .int .i64 s)) (hs2 : s ≠ 2) (w : World) (h : DsAt w base P p B G Q n c th vr_ W) :
    Calls Tryz.prog 56 #[.pointer (some ⟨P, 0, none⟩), .int .i64 x] w fun e w' => e = .returned (Value.agg #[.int .i64 0, .int .i64 0, .int .i64 0, .int .i64 0, .int .u32 0]) ∧ Below w.heap.size w w' := by
  have H := Lib.hid (fun o => h.below ((Below.refl _ _).alloc (Nat.le_refl _) _ : Below w.heap.size w (w.alloc o)))
  have f0 := fun o => (h.below ((Below.refl _ _).alloc (Nat.le_refl _) _ : Below w.heap.size w (w.alloc o))).pl.f0
  have f1 := fun o => (h.below ((Below.refl _ _).alloc (Nat.le_refl _) _ : Below w.heap.size w (w.alloc o))).pl.f1
  have c9 : ∀ o, (w.alloc o).cell? ⟨G, k * 107 + 9, none⟩ = some (.int .i64 s) := fun o => ((h.below ((Below.refl _ _).alloc (Nat.le_refl _) _ : Below w.heap.size w (w.alloc o))).pl.cell k 9 hk (by decide)).trans (congrArg some hs.out)
  have d0 : (s != 2) = true := bne_iff_ne.2 hs2
  have k0 : (0 : Int) ≤ k := by omega
  have k1 : (k : Int) < n := by omega
  have hkx := hx.out
  subst hkx
  clear h
  go_enter Tryz.func56, Tryz.ntmps56
  go_wp2_with (first
    | (go_at_call 63; (with_reducible refine (athere_in k hk true ht _ (H.out _).pl.ar).mono ?_); rintro e w1 ⟨rfl, rfl⟩))
  refine bodyPost_ret (v := (Value.agg #[.int .i64 0, .int .i64 0, .int .i64 0, .int .i64 0, .int .u32 0])) (by simp [results, Tryz.results56, go_sem]) rfl ⟨rfl, ?_⟩
  exact (Below.refl _ _).alloc (Nat.le_refl _) _
end Go.Proofs.YtncopdhhchmpeaaGreatDoor
namespace Go.Proofs.YtncopdhhchmpeaaGreatDoor
open Go.ChangeShapes Go.WideShapes Go.ChangeAt Go.RowKit
set_option linter.unusedVariables false
set_option linter.unusedSimpArgs false
theorem updS_D1 (W : Nat → Nat → Value) (i j : Nat) (hj : j < 107) : updS W i 0 zsD1 i j = zd1 j := by
  have h := updS_in W i 0 zsD1 j (by rw [zsD1_len]; exact hj)
  rw [Nat.zero_add, zsD1_get j hj] at h
  exact Option.some.inj h
theorem zd1_one (j : Nat) : (zd1 j).oneCell' = true := by
  unfold zd1
  split
  · rfl
  · exact zd_one j
/-- A domain of such a state, such a wait. -/
def fX (s wt : Int) (j : Nat) : Value := if j = 9 then .int .i64 s else if j = 106 then .int .i64 wt else zd1 j
theorem z_castD : (0 : Int) = ((0 : Nat) : Int) := rfl
end Go.Proofs.YtncopdhhchmpeaaGreatDoor
namespace Go.Proofs.YtncopdhhchmpeaaGreatDoor
open Go.ChangeShapes Go.WideShapes Go.ChangeAt Go.RowKit
set_option linter.unusedVariables false
set_option linter.unusedSimpArgs false
section
variable {s m d t b f q : Nat} {st : Int}
set_option maxRecDepth 100000 in
set_option maxHeartbeats 4000000 in
theorem skey_dom (x k0 k1 k2 k3 k4 : Int) (w : World) (hB : SyB w s m d t b f q st) (hC : ∀ W, Below w.heap.size w W → Calls Tryz.prog 55 #[.pointer (some ⟨d, 0, none⟩), .int .i64 x] W fun e w' => e = .returned (.agg #[.int .i64 k0, .int .i64 k1, .int .i64 k2, .int .i64 k3, .int .u32 k4]) ∧ Below W.heap.size W w') :
    Calls Tryz.prog 16 #[.pointer (some ⟨s, 0, none⟩), .int .i64 4, .int .i64 x] w fun e w' => e = .returned (.agg #[.int .i64 k0, .int .i64 k1, .int .i64 k2, .int .i64 k3, .int .u32 k4]) ∧ Below w.heap.size w w' := by
  have HC := Lib.hid hC
  have HB := Lib.hid hB
  clear hC hB
  go_enter Tryz.func16, Tryz.ntmps16
  go_upto_region 1 with fail
  generalize hA : World.alloc w _ = wA
  obtain ⟨K, hK⟩ : ∃ K, K = w.heap.size := ⟨_, rfl⟩
  have HBa : Hid (Below w.heap.size w wA) := Lib.hid (by rw [← hA]; exact (Below.refl _ _).alloc (Nat.le_refl _) _)
  have HK0 : Hid (KeyC wA K 0 0 0 0 0) := Lib.hid (by rw [← hA, hK]; exact KeyC.new w 0 0 0 0 0 _)
  have HKl : Hid (w.heap.size ≤ K) := Lib.hid (by rw [hK]; exact Nat.le_refl _)
  have sc := ((HB.out.below HBa.out).c1)
  rw [← hK]
  clear hA hK
  go_wp2_with (first
    | (go_at_call 55; (with_reducible refine (HC.out _ HBa.out).mono ?_); rintro e w1 ⟨rfl, hb⟩; have HB1 := Lib.hid (HBa.out.trans (hb.mono HBa.out.size)); have HK1 := Lib.hid (HK0.out.below hb); have z0 := HK1.out.c0; have z1 := HK1.out.c1; have z2 := HK1.out.c2; have z3 := HK1.out.c3; have z4 := HK1.out.c4; have zf0 := HK1.out.fr 0; have zf1 := HK1.out.fr 1; have zf2 := HK1.out.fr 2; have zf3 := HK1.out.fr 3; have zf4 := HK1.out.fr 4; clear hb))
  have t := HK1.out.set k0 k1 k2 k3 k4
  have t0 := t.c0
  have t1 := t.c1
  have t2 := t.c2
  have t3 := t.c3
  have t4 := t.c4
  refine bodyPost_ret (v := .agg #[.int .i64 k0, .int .i64 k1, .int .i64 k2, .int .i64 k3, .int .u32 k4]) (by simp [results, Tryz.results16, go_sem, t0, t1, t2, t3, t4]) rfl ⟨rfl, ?_⟩
  exact ((((HB1.out.setCell HKl.out _).setCell HKl.out _).setCell HKl.out _).setCell HKl.out _).setCell HKl.out _
set_option maxRecDepth 100000 in
set_option maxHeartbeats 4000000 in
theorem skey_resume (x k0 k1 k2 k3 k4 : Int) (w : World) (hB : SyB w s m d t b f q st) (hC : ∀ W, Below w.heap.size w W → Calls Tryz.prog 56 #[.pointer (some ⟨d, 0, none⟩), .int .i64 x] W fun e w' => e = .returned (.agg #[.int .i64 k0, .int .i64 k1, .int .i64 k2, .int .i64 k3, .int .u32 k4]) ∧ Below W.heap.size W w') :
    Calls Tryz.prog 16 #[.pointer (some ⟨s, 0, none⟩), .int .i64 6, .int .i64 x] w fun e w' => e = .returned (.agg #[.int .i64 k0, .int .i64 k1, .int .i64 k2, .int .i64 k3, .int .u32 k4]) ∧ Below w.heap.size w w' := by
  have HC := Lib.hid hC
  have HB := Lib.hid hB
  clear hC hB
  go_enter Tryz.func16, Tryz.ntmps16
  go_upto_region 1 with fail
  generalize hA : World.alloc w _ = wA
  obtain ⟨K, hK⟩ : ∃ K, K = w.heap.size := ⟨_, rfl⟩
  have HBa : Hid (Below w.heap.size w wA) := Lib.hid (by rw [← hA]; exact (Below.refl _ _).alloc (Nat.le_refl _) _)
  have HK0 : Hid (KeyC wA K 0 0 0 0 0) := Lib.hid (by rw [← hA, hK]; exact KeyC.new w 0 0 0 0 0 _)
  have HKl : Hid (w.heap.size ≤ K) := Lib.hid (by rw [hK]; exact Nat.le_refl _)
  have sc := ((HB.out.below HBa.out).c1)
  rw [← hK]
  clear hA hK
  go_wp2_with (first
    | (go_at_call 56; (with_reducible refine (HC.out _ HBa.out).mono ?_); rintro e w1 ⟨rfl, hb⟩; have HB1 := Lib.hid (HBa.out.trans (hb.mono HBa.out.size)); have HK1 := Lib.hid (HK0.out.below hb); have z0 := HK1.out.c0; have z1 := HK1.out.c1; have z2 := HK1.out.c2; have z3 := HK1.out.c3; have z4 := HK1.out.c4; have zf0 := HK1.out.fr 0; have zf1 := HK1.out.fr 1; have zf2 := HK1.out.fr 2; have zf3 := HK1.out.fr 3; have zf4 := HK1.out.fr 4; clear hb))
  have t := HK1.out.set k0 k1 k2 k3 k4
  have t0 := t.c0
  have t1 := t.c1
  have t2 := t.c2
  have t3 := t.c3
  have t4 := t.c4
  refine bodyPost_ret (v := .agg #[.int .i64 k0, .int .i64 k1, .int .i64 k2, .int .i64 k3, .int .u32 k4]) (by simp [results, Tryz.results16, go_sem, t0, t1, t2, t3, t4]) rfl ⟨rfl, ?_⟩
  exact ((((HB1.out.setCell HKl.out _).setCell HKl.out _).setCell HKl.out _).setCell HKl.out _).setCell HKl.out _
end
end Go.Proofs.YtncopdhhchmpeaaGreatDoor
namespace Go.Proofs.YtncopdhhchmpeaaGreatDoor
open Go.ChangeShapes Go.WideShapes Go.ChangeAt Go.RowKit
set_option linter.unusedVariables false
set_option linter.unusedSimpArgs false
theorem zsize : Tryz.zeroCells171.size = 107 := by kernel_rfl
section
variable {s m d t b f q : Nat} {st : Int}
end
end Go.Proofs.YtncopdhhchmpeaaGreatDoor
namespace Go.Proofs.YtncopdhhchmpeaaGreatDoor
open Go.ChangeShapes Go.WideShapes Go.ChangeAt Go.RowKit
set_option linter.unusedVariables false
/-- Rights taken away, one by one; other numbers do nothing. -/
def lessOne (r x : Int) : Int := if x = 1 ∨ x = 2 ∨ x = 4 then bits BinOp.or IntKind.i64 r x else r
def lessR (r : Int) (l : List Int) : Int := l.foldl lessOne r
/-- A slice of numbers whose elements are xs. -/
structure RowI (w : World) (a : Option Addr) (len : Nat) (xs : List Int) : Prop where
  len_eq : xs.length = len
  cells : len = 0 ∨ ∃ b off, a = some ⟨b, off, none⟩ ∧ b < w.heap.size ∧ ∀ i, i < len → w.cell? ⟨b, off + i, none⟩ = some (.int .i64 (xs.getD i 0))

/-- The worlds within Less: the key's box, the answer's place. -/
structure LRs (w wr : World) (k0 k1 k2 R k4 : Int) : Prop where
  bel : Below w.heap.size w wr
  size : w.heap.size + 1 < wr.heap.size
  box : wr.cell? ⟨w.heap.size, 0, none⟩ = some (.int .i64 k0) ∧ wr.cell? ⟨w.heap.size, 1, none⟩ = some (.int .i64 k1) ∧ wr.cell? ⟨w.heap.size, 2, none⟩ = some (.int .i64 k2) ∧ wr.cell? ⟨w.heap.size, 3, none⟩ = some (.int .i64 R) ∧ wr.cell? ⟨w.heap.size, 4, none⟩ = some (.int .u32 k4)
  out : ∀ i, i < 5 → ∃ v, wr.cell? ⟨w.heap.size + 1, i, none⟩ = some v
  fr : ∀ i, wr.frozen? ⟨w.heap.size, i, none⟩ = false
  fr1 : ∀ i, wr.frozen? ⟨w.heap.size + 1, i, none⟩ = false
theorem LRs.start (w w1 : World) (k0 k1 k2 k3 k4 : Int)
    (hb : Below ((w.alloc (.cells #[.int .i64 k0, .int .i64 k1, .int .i64 k2, .int .i64 k3, .int .u32 k4] 42)).alloc (.cells #[.int .i64 0, .int .i64 0, .int .i64 0, .int .i64 0, .int .u32 0] 42)).heap.size ((w.alloc (.cells #[.int .i64 k0, .int .i64 k1, .int .i64 k2, .int .i64 k3, .int .u32 k4] 42)).alloc (.cells #[.int .i64 0, .int .i64 0, .int .i64 0, .int .i64 0, .int .u32 0] 42)) w1) : LRs w w1 k0 k1 k2 k3 k4 := by
  have hc := (bcell hb).1
  have hf := (bcell hb).2
  have hz := hb.size
  simp at hz
  refine ⟨Below.trans (((Below.refl _ _).alloc (Nat.le_refl _) _).alloc (by simp) _) (hb.mono (by simp; omega)), by omega, ?_, fun i hi => ?_, fun i => ?_, fun i => ?_⟩
  · refine ⟨?_, ?_, ?_, ?_, ?_⟩ <;> (rw [hc _ _ (by simp; omega)]; simp)
  · rw [hc _ _ (by simp)]
    match i, hi with
    | 0, _ => exact ⟨_, by simp; rfl⟩
    | 1, _ => exact ⟨_, by simp; rfl⟩
    | 2, _ => exact ⟨_, by simp; rfl⟩
    | 3, _ => exact ⟨_, by simp; rfl⟩
    | 4, _ => exact ⟨_, by simp; rfl⟩
  · rw [hf _ _ (by simp; omega)]; simp
  · rw [hf _ _ (by simp)]; simp
theorem LRs.set {w wr : World} {k0 k1 k2 R k4 : Int} (h : LRs w wr k0 k1 k2 R k4) (x : Int) : LRs w (wr.setCell ⟨w.heap.size, 3, none⟩ (.int .i64 x)) k0 k1 k2 x k4 := by
  obtain ⟨h1, h2, ⟨a0, a1, a2, a3, a4⟩, h4, h5, h6⟩ := h
  refine ⟨h1.setCell (by simp) _, by simpa [World.setCell] using h2, ?_, fun i hi => ?_, fun i => ?_, fun i => ?_⟩
  · refine ⟨?_, ?_, ?_, ?_, ?_⟩
    · rw [World.cell?_setCell_other _ _ _ _ (by simp)]; exact a0
    · rw [World.cell?_setCell_other _ _ _ _ (by simp)]; exact a1
    · rw [World.cell?_setCell_other _ _ _ _ (by simp)]; exact a2
    · exact World.cell?_setCell_same wr _ _ a3
    · rw [World.cell?_setCell_other _ _ _ _ (by simp)]; exact a4
  · rw [World.cell?_setCell_other _ _ _ _ (by simp)]; exact h4 i hi
  · rw [World.frozen?_setCell]; exact h5 i
  · rw [World.frozen?_setCell]; exact h6 i
def lessK (k0 k3 : Int) (l : List Int) : Int := if k0 = 2 ∨ k0 = 3 then lessR k3 l else k3
end Go.Proofs.YtncopdhhchmpeaaGreatDoor
namespace Go.Proofs.YtncopdhhchmpeaaGreatDoor
open Go.ChangeShapes Go.WideShapes Go.ChangeAt Go.RowKit
set_option linter.unusedVariables false
def manyOf (k : Int) : Int := if k = 2 ∨ k = 3 then 256 else if k = 8 then 64 else if k = 4 ∨ k = 5 ∨ k = 6 ∨ k = 7 ∨ k = 9 ∨ k = 10 then 32 else 1
end Go.Proofs.YtncopdhhchmpeaaGreatDoor
namespace Go.Proofs.YtncopdhhchmpeaaGreatDoor
open Go.ChangeShapes Go.WideShapes Go.ChangeAt Go.RowKit
set_option linter.unusedVariables false
end Go.Proofs.YtncopdhhchmpeaaGreatDoor
namespace Go.Proofs.YtncopdhhchmpeaaGreatDoor
open Go.ChangeShapes Go.WideShapes Go.ChangeAt Go.RowKit
set_option linter.unusedVariables false
end Go.Proofs.YtncopdhhchmpeaaGreatDoor
namespace Go.Proofs.YtncopdhhchmpeaaGreatDoor
open Go.ChangeShapes Go.WideShapes Go.ChangeAt Go.RowKit
set_option linter.unusedVariables false
end Go.Proofs.YtncopdhhchmpeaaGreatDoor
namespace Go.Proofs.YtncopdhhchmpeaaGreatDoor
open Go.ChangeShapes Go.WideShapes Go.ChangeAt Go.RowKit
set_option linter.unusedVariables false
end Go.Proofs.YtncopdhhchmpeaaGreatDoor
namespace Go.Proofs.YtncopdhhchmpeaaGreatDoor
open Go.ChangeShapes Go.WideShapes Go.ChangeAt Go.RowKit
set_option linter.unusedVariables false
def mostOf (k : Int) : Int := if 1 < manyOf k then 1048575 else 0
def rightsOf (k : Int) : Int := if k = 2 ∨ k = 3 then 7 else 0
def dataOf (k : Int) : Int := if k = 1 then 4294967295 else if k = 2 then 4 else if k = 5 ∨ k = 6 then 536870911 else 0
def InB (k0 k1 k2 k3 k4 : Int) : Prop := 0 ≤ k1 ∧ k1 < manyOf k0 ∧ 0 ≤ k2 ∧ k2 ≤ mostOf k0 ∧ 0 ≤ k3 ∧ k3 ≤ rightsOf k0 ∧ k4 ≤ dataOf k0
instance (k0 k1 k2 k3 k4 : Int) : Decidable (InB k0 k1 k2 k3 k4) := by unfold InB; infer_instance
/-- The error's number of a key that may not be; 0: it may. -/
def codeOf (k0 k1 k2 k3 k4 : Int) : Int := if k0 < 0 ∨ 14 < k0 then 102 else if InB k0 k1 k2 k3 k4 then 0 else 103
theorem codeOf_0 (k0 k1 k2 k3 k4 : Int) (h : ¬ (k0 < 0 ∨ 14 < k0)) (hi : InB k0 k1 k2 k3 k4) : codeOf k0 k1 k2 k3 k4 = 0 := by unfold codeOf; rw [if_neg h, if_pos hi]
end Go.Proofs.YtncopdhhchmpeaaGreatDoor
namespace Go.Proofs.YtncopdhhchmpeaaGreatDoor
open Go.ChangeShapes Go.WideShapes Go.ChangeAt Go.RowKit
set_option linter.unusedVariables false
end Go.Proofs.YtncopdhhchmpeaaGreatDoor
namespace Go.Proofs.YtncopdhhchmpeaaGreatDoor
open Go.ChangeShapes Go.WideShapes Go.ChangeAt Go.RowKit
set_option linter.unusedVariables false
def andI (a b : Int) : Int := bits BinOp.and IntKind.i64 a b
def orI (a b : Int) : Int := bits BinOp.or IntKind.i64 a b
def In8 (x : Int) : Prop := 0 ≤ x ∧ x ≤ 7
theorem In8.of (n : Fin 8) : In8 (n.val : Int) := ⟨by omega, by have := n.isLt; omega⟩
end Go.Proofs.YtncopdhhchmpeaaGreatDoor
namespace Go.Proofs.YtncopdhhchmpeaaGreatDoor
open Go.ChangeShapes Go.WideShapes Go.ChangeAt Go.RowKit
set_option linter.unusedVariables false
/-- Does a give no more than b? -/
def withinB (a0 a1 a2 a3 a4 b0 b1 b2 b3 b4 : Int) : Bool := (bits BinOp.and IntKind.i64 a3 b3 == b3) && sameB a0 a1 a2 0 a4 b0 b1 b2 0 b4
theorem RowI.below {W w' : World} {a : Option Addr} {len : Nat} {xs : List Int} (h : RowI W a len xs) (hb : Below W.heap.size W w') : RowI w' a len xs := by
  obtain ⟨h1, h2⟩ := h
  refine ⟨h1, ?_⟩
  rcases h2 with h2 | ⟨b, off, rfl, hl, hc⟩
  · exact .inl h2
  · exact .inr ⟨b, off, rfl, Nat.lt_of_lt_of_le hl hb.size, fun i hi => (hb.cell (p := ⟨b, off + i, none⟩) hl).trans (hc i hi)⟩
end Go.Proofs.YtncopdhhchmpeaaGreatDoor
namespace Go.Proofs.YtncopdhhchmpeaaGreatDoor
open Go.ChangeShapes Go.WideShapes Go.ChangeAt Go.RowKit
set_option linter.unusedVariables false
set_option linter.unusedSimpArgs false
section
variable {s m d t b f q : Nat} {st : Int}
end
theorem slive_plain (s : Nat) (k0 k1 k2 k3 k4 : Int) (hk : k0 = 0 ∨ k0 = 1 ∨ k0 = 11 ∨ k0 = 12 ∨ k0 = 13 ∨ k0 = 14) (w : World) : Calls Tryz.prog 21 #[.pointer (some ⟨s, 0, none⟩), (Value.agg #[.int .i64 k0, .int .i64 k1, .int .i64 k2, .int .i64 k3, .int .u32 k4])] w fun e w' => e = .returned (.bool true) ∧ Below w.heap.size w w' := by
  rcases hk with rfl | rfl | rfl | rfl | rfl | rfl
  all_goals
    go_enter Tryz.func21, Tryz.ntmps21
    go_wp2_with fail
    go_ret
    exact ⟨rfl, (Below.refl _ _).alloc (Nat.le_refl _) _⟩
set_option maxRecDepth 100000 in
set_option maxHeartbeats 4000000 in
theorem slive_mem {S : Nat} {a b : Shp} {th : Nat → Bool} {vr_ : Nat → Int} {W : Nat → Nat → Value} {th2 : Nat → Bool} {vr2 : Nat → Int} {W2 : Nat → Nat → Int} (s m : Nat) (k0 k1 k2 k3 k4 : Int) (hk : k0 = 2 ∨ k0 = 3) (r : Bool) (hr : Hid (liveB a b th vr_ th2 vr2 k0 k1 k2 = r)) (w : World) (h0 : w.cell? ⟨s, 0, none⟩ = some (.pointer (some ⟨m, 0, none⟩))) (h1 : w.cell? ⟨m, 0, none⟩ = some (.pointer (some ⟨S, 0, none⟩))) (h : (StAt w S a b th vr_ W th2 vr2 W2)) :
    Calls Tryz.prog 21 #[.pointer (some ⟨s, 0, none⟩), (Value.agg #[.int .i64 k0, .int .i64 k1, .int .i64 k2, .int .i64 k3, .int .u32 k4])] w fun e w' => e = .returned (.bool r) ∧ Below w.heap.size w w' := by
  have H := Lib.hid h
  have HL := Lib.hid (⟨cell_lt h0, cell_lt h1, h0, h1⟩ : s < w.heap.size ∧ m < w.heap.size ∧ w.cell? ⟨s, 0, none⟩ = some (.pointer (some ⟨m, 0, none⟩)) ∧ w.cell? ⟨m, 0, none⟩ = some (.pointer (some ⟨S, 0, none⟩)))
  clear h h0 h1
  rcases hk with rfl | rfl
  · go_enter Tryz.func21, Tryz.ntmps21; go_upto_region 1 with fail; generalize hA : World.alloc w _ = wA; obtain ⟨KB, hKB⟩ : ∃ KB, KB = w.heap.size := ⟨_, rfl⟩; have HA : Hid (Below w.heap.size w wA ∧ KeyC wA KB 2 k1 k2 k3 k4) := (Lib.hid (by rw [← hA, hKB]; exact ⟨(Below.refl _ _).alloc (Nat.le_refl _) _, KeyC.new w 2 k1 k2 k3 k4 _⟩)); rw [← hKB]; clear hA hKB; have q0 := HA.out.2.c0; go_upto_region 11 with fail; have HSK : Hid (∀ W, Below wA.heap.size wA W → (World.cell? W ⟨s, 0, none⟩ = some (.pointer (some ⟨m, 0, none⟩)) ∧ World.cell? W ⟨m, 0, none⟩ = some (.pointer (some ⟨S, 0, none⟩)) ∧ (World.cell? W ⟨KB, 0, none⟩ = some (.int .i64 2) ∧ World.cell? W ⟨KB, 1, none⟩ = some (.int .i64 k1) ∧ World.cell? W ⟨KB, 2, none⟩ = some (.int .i64 k2) ∧ World.cell? W ⟨KB, 3, none⟩ = some (.int .i64 k3) ∧ World.cell? W ⟨KB, 4, none⟩ = some (.int .u32 k4)))) := (Lib.hid (fun W hW => ⟨((HA.out.1.trans (hW.mono HA.out.1.size)).cell (p := ⟨s, 0, none⟩) HL.out.1).trans HL.out.2.2.1, ((HA.out.1.trans (hW.mono HA.out.1.size)).cell (p := ⟨m, 0, none⟩) HL.out.2.1).trans HL.out.2.2.2, ofive (HA.out.2.below hW)⟩)); obtain ⟨wD, hwD⟩ : ∃ wD, wD = wA.drew := ⟨_, rfl⟩; have HBd : Hid (Below wA.heap.size wA wD) := (Lib.hid (by rw [hwD]; exact (Below.refl _ _).drew)); refine wp_region_noPanic ?_; refine wp_region_held_drew (S := fun W => (World.cell? W ⟨s, 0, none⟩ = some (.pointer (some ⟨m, 0, none⟩)) ∧ World.cell? W ⟨m, 0, none⟩ = some (.pointer (some ⟨S, 0, none⟩)) ∧ (World.cell? W ⟨KB, 0, none⟩ = some (.int .i64 2) ∧ World.cell? W ⟨KB, 1, none⟩ = some (.int .i64 k1) ∧ World.cell? W ⟨KB, 2, none⟩ = some (.int .i64 k2) ∧ World.cell? W ⟨KB, 3, none⟩ = some (.int .i64 k3) ∧ World.cell? W ⟨KB, 4, none⟩ = some (.int .u32 k4)))) (by kernel_rfl) (by rw [← hwD]; exact HSK.out _ HBd.out) (fun hHeld => ?_); rw [← hwD] at hHeld ⊢; clear hwD; refine wpAnyH_take (i := 0) (v := ?_) (by rfl) (by kernel_rfl) (by kernel_rfl) (by kernel_rfl) (fun _ _ _ h => h) (Or.inl ⟨by kernel_rfl, ?_⟩) (by assumption) ?_; rotate_left 1; (focus (intro w hSw; (try dsimp only at hSw); simp only [List.getElem_toArray, List.getElem_cons_succ, List.getElem_cons_zero]; all_goals go_simp; all_goals (try with_reducible rfl))); (try simp only [Act.put, List.getElem_toArray, List.getElem_cons_succ, List.getElem_cons_zero, List.setIfInBounds_toArray, List.set_cons_zero, List.set_cons_succ]); refine wpAnyH_take (i := 1) (v := ?_) (by rfl) (by kernel_rfl) (by kernel_rfl) (by kernel_rfl) (fun _ _ _ h => h) (Or.inl ⟨by kernel_rfl, ?_⟩) (by assumption) ?_; rotate_left 1; (focus (intro w hSw; (try dsimp only at hSw); simp only [List.getElem_toArray, List.getElem_cons_succ, List.getElem_cons_zero]; all_goals go_simp; all_goals (try with_reducible rfl))); (try simp only [Act.put, List.getElem_toArray, List.getElem_cons_succ, List.getElem_cons_zero, List.setIfInBounds_toArray, List.set_cons_zero, List.set_cons_succ]); refine wpAnyH_take (i := 2) (v := ?_) (by rfl) (by kernel_rfl) (by kernel_rfl) (by kernel_rfl) (fun _ _ _ h => h) (Or.inl ⟨by kernel_rfl, ?_⟩) (by assumption) ?_; rotate_left 1; (focus (intro w hSw; (try dsimp only at hSw); simp only [List.getElem_toArray, List.getElem_cons_succ, List.getElem_cons_zero]; all_goals go_simp; all_goals (try with_reducible rfl))); (try simp only [Act.put, List.getElem_toArray, List.getElem_cons_succ, List.getElem_cons_zero, List.setIfInBounds_toArray, List.set_cons_zero, List.set_cons_succ]); refine wpAnyH_take (i := 3) (v := ?_) (by rfl) (by kernel_rfl) (by kernel_rfl) (by kernel_rfl) (fun _ _ _ h => h) (Or.inl ⟨by kernel_rfl, ?_⟩) (by assumption) ?_; rotate_left 1; (focus (intro w hSw; (try dsimp only at hSw); simp only [List.getElem_toArray, List.getElem_cons_succ, List.getElem_cons_zero]; all_goals go_simp; all_goals (try with_reducible rfl))); (try simp only [Act.put, List.getElem_toArray, List.getElem_cons_succ, List.getElem_cons_zero, List.setIfInBounds_toArray, List.set_cons_zero, List.set_cons_succ]); refine wpAnyH_take (i := 4) (v := ?_) (by rfl) (by kernel_rfl) (by kernel_rfl) (by kernel_rfl) (fun _ _ _ h => h) (Or.inl ⟨by kernel_rfl, ?_⟩) (by assumption) ?_; rotate_left 1; (focus (intro w hSw; (try dsimp only at hSw); simp only [List.getElem_toArray, List.getElem_cons_succ, List.getElem_cons_zero]; all_goals go_simp; all_goals (try with_reducible rfl))); (try simp only [Act.put, List.getElem_toArray, List.getElem_cons_succ, List.getElem_cons_zero, List.setIfInBounds_toArray, List.set_cons_zero, List.set_cons_succ]); refine wpAnyH_take (i := 5) (v := ?_) (by rfl) (by kernel_rfl) (by kernel_rfl) (by kernel_rfl) (fun _ _ _ h => h) (Or.inl ⟨by kernel_rfl, ?_⟩) (by assumption) ?_; rotate_left 1; (focus (intro w hSw; (try dsimp only at hSw); simp only [List.getElem_toArray, List.getElem_cons_succ, List.getElem_cons_zero]; all_goals go_simp; all_goals (try with_reducible rfl))); (try simp only [Act.put, List.getElem_toArray, List.getElem_cons_succ, List.getElem_cons_zero, List.setIfInBounds_toArray, List.set_cons_zero, List.set_cons_succ]); refine wpAnyH_take (i := 6) (v := ?_) (by rfl) (by kernel_rfl) (by kernel_rfl) (by kernel_rfl) (fun _ _ _ h => h) (Or.inl ⟨by kernel_rfl, ?_⟩) (by assumption) ?_; rotate_left 1; (focus (intro w hSw; (try dsimp only at hSw); simp only [List.getElem_toArray, List.getElem_cons_succ, List.getElem_cons_zero]; all_goals go_simp; all_goals (try with_reducible rfl))); (try simp only [Act.put, List.getElem_toArray, List.getElem_cons_succ, List.getElem_cons_zero, List.setIfInBounds_toArray, List.set_cons_zero, List.set_cons_succ]); refine wpAnyH_take (i := 7) (v := ?_) (by rfl) (by kernel_rfl) (by kernel_rfl) (by kernel_rfl) (fun _ _ _ h => h) (Or.inl ⟨by kernel_rfl, ?_⟩) (by assumption) ?_; rotate_left 1; (focus (intro w hSw; (try dsimp only at hSw); simp only [List.getElem_toArray, List.getElem_cons_succ, List.getElem_cons_zero]; all_goals go_simp; all_goals (try with_reducible rfl))); (try simp only [Act.put, List.getElem_toArray, List.getElem_cons_succ, List.getElem_cons_zero, List.setIfInBounds_toArray, List.set_cons_zero, List.set_cons_succ]); refine wpAnyH_ready (rs := [8]) (by kernel_rfl) (by simp) ?_; refine AllReadyH.cons (by rfl) (fun K hK => ?_) AllReadyH.nil; rw [if_pos (by kernel_rfl)]; simp only [List.getElem_toArray, List.getElem_cons_succ, List.getElem_cons_zero]; go_wp2_with (first | (go_at_call 66; (with_reducible refine (slive_at 2 k1 k2 k3 k4 r hr _ (H.out.below (HA.out.1.trans (HBd.out.mono HA.out.1.size)))).mono ?_); rintro e w9 ⟨rfl, hb⟩; have HB9 := (Lib.hid (HBd.out.trans (hb.mono HBd.out.size))); clear hb)); refine hK.out _ _ (HSK.out _ HB9.out) (fun hHeld => ?_); clear hK K; (try simp only [Act.put, List.getElem_toArray, List.getElem_cons_succ, List.getElem_cons_zero, List.setIfInBounds_toArray, List.set_cons_zero, List.set_cons_succ]); refine wpAnyH_take (i := 9) (v := ?_) (by rfl) (by kernel_rfl) (by kernel_rfl) (by kernel_rfl) (fun _ _ _ h => h) (Or.inl ⟨by kernel_rfl, ?_⟩) (by assumption) ?_; rotate_left 1; (focus (intro w hSw; (try dsimp only at hSw); simp only [List.getElem_toArray, List.getElem_cons_succ, List.getElem_cons_zero]; all_goals go_simp; all_goals (try with_reducible rfl))); (try simp only [Act.put, List.getElem_toArray, List.getElem_cons_succ, List.getElem_cons_zero, List.setIfInBounds_toArray, List.set_cons_zero, List.set_cons_succ]); refine wpAnyH_done (by kernel_rfl) ?_ _; refine NoPanic.normal ?_; go_wp2_with fail; go_ret; exact ⟨rfl, HA.out.1.trans (HB9.out.mono HA.out.1.size)⟩
  · go_enter Tryz.func21, Tryz.ntmps21; go_upto_region 1 with fail; generalize hA : World.alloc w _ = wA; obtain ⟨KB, hKB⟩ : ∃ KB, KB = w.heap.size := ⟨_, rfl⟩; have HA : Hid (Below w.heap.size w wA ∧ KeyC wA KB 3 k1 k2 k3 k4) := (Lib.hid (by rw [← hA, hKB]; exact ⟨(Below.refl _ _).alloc (Nat.le_refl _) _, KeyC.new w 3 k1 k2 k3 k4 _⟩)); rw [← hKB]; clear hA hKB; have q0 := HA.out.2.c0; go_upto_region 11 with fail; have HSK : Hid (∀ W, Below wA.heap.size wA W → (World.cell? W ⟨s, 0, none⟩ = some (.pointer (some ⟨m, 0, none⟩)) ∧ World.cell? W ⟨m, 0, none⟩ = some (.pointer (some ⟨S, 0, none⟩)) ∧ (World.cell? W ⟨KB, 0, none⟩ = some (.int .i64 3) ∧ World.cell? W ⟨KB, 1, none⟩ = some (.int .i64 k1) ∧ World.cell? W ⟨KB, 2, none⟩ = some (.int .i64 k2) ∧ World.cell? W ⟨KB, 3, none⟩ = some (.int .i64 k3) ∧ World.cell? W ⟨KB, 4, none⟩ = some (.int .u32 k4)))) := (Lib.hid (fun W hW => ⟨((HA.out.1.trans (hW.mono HA.out.1.size)).cell (p := ⟨s, 0, none⟩) HL.out.1).trans HL.out.2.2.1, ((HA.out.1.trans (hW.mono HA.out.1.size)).cell (p := ⟨m, 0, none⟩) HL.out.2.1).trans HL.out.2.2.2, ofive (HA.out.2.below hW)⟩)); obtain ⟨wD, hwD⟩ : ∃ wD, wD = wA.drew := ⟨_, rfl⟩; have HBd : Hid (Below wA.heap.size wA wD) := (Lib.hid (by rw [hwD]; exact (Below.refl _ _).drew)); refine wp_region_noPanic ?_; refine wp_region_held_drew (S := fun W => (World.cell? W ⟨s, 0, none⟩ = some (.pointer (some ⟨m, 0, none⟩)) ∧ World.cell? W ⟨m, 0, none⟩ = some (.pointer (some ⟨S, 0, none⟩)) ∧ (World.cell? W ⟨KB, 0, none⟩ = some (.int .i64 3) ∧ World.cell? W ⟨KB, 1, none⟩ = some (.int .i64 k1) ∧ World.cell? W ⟨KB, 2, none⟩ = some (.int .i64 k2) ∧ World.cell? W ⟨KB, 3, none⟩ = some (.int .i64 k3) ∧ World.cell? W ⟨KB, 4, none⟩ = some (.int .u32 k4)))) (by kernel_rfl) (by rw [← hwD]; exact HSK.out _ HBd.out) (fun hHeld => ?_); rw [← hwD] at hHeld ⊢; clear hwD; refine wpAnyH_take (i := 0) (v := ?_) (by rfl) (by kernel_rfl) (by kernel_rfl) (by kernel_rfl) (fun _ _ _ h => h) (Or.inl ⟨by kernel_rfl, ?_⟩) (by assumption) ?_; rotate_left 1; (focus (intro w hSw; (try dsimp only at hSw); simp only [List.getElem_toArray, List.getElem_cons_succ, List.getElem_cons_zero]; all_goals go_simp; all_goals (try with_reducible rfl))); (try simp only [Act.put, List.getElem_toArray, List.getElem_cons_succ, List.getElem_cons_zero, List.setIfInBounds_toArray, List.set_cons_zero, List.set_cons_succ]); refine wpAnyH_take (i := 1) (v := ?_) (by rfl) (by kernel_rfl) (by kernel_rfl) (by kernel_rfl) (fun _ _ _ h => h) (Or.inl ⟨by kernel_rfl, ?_⟩) (by assumption) ?_; rotate_left 1; (focus (intro w hSw; (try dsimp only at hSw); simp only [List.getElem_toArray, List.getElem_cons_succ, List.getElem_cons_zero]; all_goals go_simp; all_goals (try with_reducible rfl))); (try simp only [Act.put, List.getElem_toArray, List.getElem_cons_succ, List.getElem_cons_zero, List.setIfInBounds_toArray, List.set_cons_zero, List.set_cons_succ]); refine wpAnyH_take (i := 2) (v := ?_) (by rfl) (by kernel_rfl) (by kernel_rfl) (by kernel_rfl) (fun _ _ _ h => h) (Or.inl ⟨by kernel_rfl, ?_⟩) (by assumption) ?_; rotate_left 1; (focus (intro w hSw; (try dsimp only at hSw); simp only [List.getElem_toArray, List.getElem_cons_succ, List.getElem_cons_zero]; all_goals go_simp; all_goals (try with_reducible rfl))); (try simp only [Act.put, List.getElem_toArray, List.getElem_cons_succ, List.getElem_cons_zero, List.setIfInBounds_toArray, List.set_cons_zero, List.set_cons_succ]); refine wpAnyH_take (i := 3) (v := ?_) (by rfl) (by kernel_rfl) (by kernel_rfl) (by kernel_rfl) (fun _ _ _ h => h) (Or.inl ⟨by kernel_rfl, ?_⟩) (by assumption) ?_; rotate_left 1; (focus (intro w hSw; (try dsimp only at hSw); simp only [List.getElem_toArray, List.getElem_cons_succ, List.getElem_cons_zero]; all_goals go_simp; all_goals (try with_reducible rfl))); (try simp only [Act.put, List.getElem_toArray, List.getElem_cons_succ, List.getElem_cons_zero, List.setIfInBounds_toArray, List.set_cons_zero, List.set_cons_succ]); refine wpAnyH_take (i := 4) (v := ?_) (by rfl) (by kernel_rfl) (by kernel_rfl) (by kernel_rfl) (fun _ _ _ h => h) (Or.inl ⟨by kernel_rfl, ?_⟩) (by assumption) ?_; rotate_left 1; (focus (intro w hSw; (try dsimp only at hSw); simp only [List.getElem_toArray, List.getElem_cons_succ, List.getElem_cons_zero]; all_goals go_simp; all_goals (try with_reducible rfl))); (try simp only [Act.put, List.getElem_toArray, List.getElem_cons_succ, List.getElem_cons_zero, List.setIfInBounds_toArray, List.set_cons_zero, List.set_cons_succ]); refine wpAnyH_take (i := 5) (v := ?_) (by rfl) (by kernel_rfl) (by kernel_rfl) (by kernel_rfl) (fun _ _ _ h => h) (Or.inl ⟨by kernel_rfl, ?_⟩) (by assumption) ?_; rotate_left 1; (focus (intro w hSw; (try dsimp only at hSw); simp only [List.getElem_toArray, List.getElem_cons_succ, List.getElem_cons_zero]; all_goals go_simp; all_goals (try with_reducible rfl))); (try simp only [Act.put, List.getElem_toArray, List.getElem_cons_succ, List.getElem_cons_zero, List.setIfInBounds_toArray, List.set_cons_zero, List.set_cons_succ]); refine wpAnyH_take (i := 6) (v := ?_) (by rfl) (by kernel_rfl) (by kernel_rfl) (by kernel_rfl) (fun _ _ _ h => h) (Or.inl ⟨by kernel_rfl, ?_⟩) (by assumption) ?_; rotate_left 1; (focus (intro w hSw; (try dsimp only at hSw); simp only [List.getElem_toArray, List.getElem_cons_succ, List.getElem_cons_zero]; all_goals go_simp; all_goals (try with_reducible rfl))); (try simp only [Act.put, List.getElem_toArray, List.getElem_cons_succ, List.getElem_cons_zero, List.setIfInBounds_toArray, List.set_cons_zero, List.set_cons_succ]); refine wpAnyH_take (i := 7) (v := ?_) (by rfl) (by kernel_rfl) (by kernel_rfl) (by kernel_rfl) (fun _ _ _ h => h) (Or.inl ⟨by kernel_rfl, ?_⟩) (by assumption) ?_; rotate_left 1; (focus (intro w hSw; (try dsimp only at hSw); simp only [List.getElem_toArray, List.getElem_cons_succ, List.getElem_cons_zero]; all_goals go_simp; all_goals (try with_reducible rfl))); (try simp only [Act.put, List.getElem_toArray, List.getElem_cons_succ, List.getElem_cons_zero, List.setIfInBounds_toArray, List.set_cons_zero, List.set_cons_succ]); refine wpAnyH_ready (rs := [8]) (by kernel_rfl) (by simp) ?_; refine AllReadyH.cons (by rfl) (fun K hK => ?_) AllReadyH.nil; rw [if_pos (by kernel_rfl)]; simp only [List.getElem_toArray, List.getElem_cons_succ, List.getElem_cons_zero]; go_wp2_with (first | (go_at_call 66; (with_reducible refine (slive_at 3 k1 k2 k3 k4 r hr _ (H.out.below (HA.out.1.trans (HBd.out.mono HA.out.1.size)))).mono ?_); rintro e w9 ⟨rfl, hb⟩; have HB9 := (Lib.hid (HBd.out.trans (hb.mono HBd.out.size))); clear hb)); refine hK.out _ _ (HSK.out _ HB9.out) (fun hHeld => ?_); clear hK K; (try simp only [Act.put, List.getElem_toArray, List.getElem_cons_succ, List.getElem_cons_zero, List.setIfInBounds_toArray, List.set_cons_zero, List.set_cons_succ]); refine wpAnyH_take (i := 9) (v := ?_) (by rfl) (by kernel_rfl) (by kernel_rfl) (by kernel_rfl) (fun _ _ _ h => h) (Or.inl ⟨by kernel_rfl, ?_⟩) (by assumption) ?_; rotate_left 1; (focus (intro w hSw; (try dsimp only at hSw); simp only [List.getElem_toArray, List.getElem_cons_succ, List.getElem_cons_zero]; all_goals go_simp; all_goals (try with_reducible rfl))); (try simp only [Act.put, List.getElem_toArray, List.getElem_cons_succ, List.getElem_cons_zero, List.setIfInBounds_toArray, List.set_cons_zero, List.set_cons_succ]); refine wpAnyH_done (by kernel_rfl) ?_ _; refine NoPanic.normal ?_; go_wp2_with fail; go_ret; exact ⟨rfl, HA.out.1.trans (HB9.out.mono HA.out.1.size)⟩
/-- A system of banks, nodes, pages, domains; no meter, no factory. -/
structure SJ (w0 w : World) (L : BLoc) (X : SLoc) (D : BSt) : Prop where
  k : BW w0 w L D
  t : MtAt w X.tB X.tP X.tp X.tR X.tG X.tn X.tn (fun _ => false) (fun _ => 0) (fun _ => 0) (fun _ => 0)
  f : PlAt 127 31 w X.fB X.fP X.fp X.fR X.fG X.fn X.fn (fun _ => false) (fun _ => 0) (fun _ b => zk b)
  b : SyB w X.s L.mb L.dP X.tP L.P X.fP X.q 0
  lo : L.T ≤ X.s ∧ L.T ≤ X.q ∧ X.s ≠ X.q ∧ L.T ≤ X.fB ∧ w0.heap.size ≤ X.tB ∧ L.dB ≤ X.tB ∧ L.dR < X.tB ∧ L.dG < X.tB ∧ X.tP < L.bB ∧ X.tp < L.bB ∧ X.tR < L.bB ∧ X.tG < L.bB
section
variable {w0 w w' : World} {L : BLoc} {X : SLoc} {D D' : BSt}
theorem SysNew.sj (h : SysNew w0 w L X) : SJ w0 w L X st0 := ⟨h.k, h.t, h.f, h.b, h.lo⟩
theorem PlAt.same {T : TypeId} {s base P p B G n c : Nat} {th : Nat → Bool} {vr : Nat → Int} {W : Nat → Nat → Value} (h : PlAt T s w base P p B G n c th vr W) (hs : w.heap.size ≤ w'.heap.size) (h1 : w'.heap[P]? = w.heap[P]?) (h2 : w'.heap[p]? = w.heap[p]?) (h3 : w'.heap[B]? = w.heap[B]?) (h4 : w'.heap[G]? = w.heap[G]?) : PlAt T s w' base P p B G n c th vr W :=
  ⟨Nat.lt_of_lt_of_le h.pl hs, h.pb, (World.cell?_of_block (a := ⟨P, 0, none⟩) h1).trans h.f0, (World.cell?_of_block (a := ⟨P, 1, none⟩) h1).trans h.f1, h.ar.same2 hs h2 h3, own_same h.row h4, h.n1, h.n2, h.n3, h.n4⟩
theorem MtAt.same {base P p B G n c : Nat} {th : Nat → Bool} {vr pr tk : Nat → Int} (h : MtAt w base P p B G n c th vr pr tk) (hs : w.heap.size ≤ w'.heap.size) (h1 : w'.heap[P]? = w.heap[P]?) (h2 : w'.heap[p]? = w.heap[p]?) (h3 : w'.heap[B]? = w.heap[B]?) (h4 : w'.heap[G]? = w.heap[G]?) : MtAt w' base P p B G n c th vr pr tk :=
  ⟨Nat.lt_of_lt_of_le h.pl hs, h.pb, (World.cell?_of_block (a := ⟨P, 0, none⟩) h1).trans h.f0, (World.cell?_of_block (a := ⟨P, 1, none⟩) h1).trans h.f1, h.ar.same2 hs h2 h3, own_same h.row h4, h.n1, h.n2, h.n3, h.n4⟩
theorem MtAt.low2 {base P p B G n c : Nat} {th : Nat → Bool} {vr pr tk : Nat → Int} (h : MtAt w base P p B G n c th vr pr tk) : base ≤ P ∧ base ≤ p ∧ base ≤ B ∧ base ≤ G ∧ P < w.heap.size ∧ p < w.heap.size ∧ B < w.heap.size ∧ G < w.heap.size := ⟨h.pb, h.ar.pb, h.ar.lt.1, (h.row.lt G rfl).1, h.pl, h.ar.pl, h.ar.lt.2, (h.row.lt G rfl).2⟩
theorem SJ.below (h : SJ w0 w L X D) (hb : Below w.heap.size w w') : SJ w0 w' L X D :=
  ⟨h.k.below hb, h.t.below hb, h.f.same hb.size (hb.block _ h.f.pl) (hb.block _ h.f.ar.pl) (hb.block _ h.f.ar.lt.2) (hb.block _ (h.f.row.lt _ rfl).2), h.b.below hb, h.lo⟩
theorem SJ.step (h : SJ w0 w L X D) (hk : BW w0 w' L D') (hu : UpM L w w') : SJ w0 w' L X D' := by
  have ht := h.t.low2
  have hl := h.lo
  have hz := hu.up.1
  have hT := h.k.tt.1
  have win : ∀ k, X.tB ≤ k → k < L.bB → k < w.heap.size → w'.heap[k]? = w.heap[k]? := fun k h1 h2 h3 => hu.win k (by omega) h2 (by omega) (by omega) h3
  have f1 := h.f.pb
  have f2 := h.f.ar.pb
  have f3 := h.f.ar.lt
  have f4 := h.f.row.lt X.fG rfl
  exact ⟨hk, h.t.same hz (win _ ht.1 (by omega) ht.2.2.2.2.1) (win _ ht.2.1 (by omega) ht.2.2.2.2.2.1) (win _ ht.2.2.1 (by omega) ht.2.2.2.2.2.2.1) (win _ ht.2.2.2.1 (by omega) ht.2.2.2.2.2.2.2), h.f.same hz (hu.up.2 _ (by omega) h.f.pl) (hu.up.2 _ (by omega) h.f.ar.pl) (hu.up.2 _ (by omega) f3.2) (hu.up.2 _ (by omega) f4.2), h.b.same hz (hu.up.2 _ hl.1 h.b.lt), hl⟩
end
end Go.Proofs.YtncopdhhchmpeaaGreatDoor
namespace Go.Proofs.YtncopdhhchmpeaaGreatDoor
open Go.ChangeShapes Go.WideShapes Go.ChangeAt Go.RowKit
set_option linter.unusedVariables false
theorem many_places (k : Int) : manyOf k = if placesOf k = 0 then 1 else placesOf k := by
  unfold manyOf placesOf
  repeat' split
  all_goals first | rfl | omega | (exfalso; simp_all)
theorem hid_many (k : Int) : hidOf k = manyOf k - 1 := by
  unfold hidOf
  rw [many_places]
  have := placesOf_ge k
  split <;> split <;> omega
theorem hver_most (k : Int) : hverOf k = mostOf k := by
  unfold hverOf mostOf
  rw [many_places]
  have := placesOf_ge k
  have p1 : placesOf k ≠ 1 := by unfold placesOf; repeat' split
                                 all_goals omega
  by_cases h : placesOf k = 0
  · rw [if_pos h, if_neg (by omega), if_neg (by omega)]
  · rw [if_neg h, if_pos (by omega), if_pos (by omega)]
theorem hr_rights (k : Int) : hrOf k = rightsOf k := by
  unfold hrOf rightsOf
  by_cases h : k = 2 ∨ k = 3
  · rw [if_pos h, if_pos (by simpa using h)]
  · rw [if_neg h, if_neg (by simpa using h)]
theorem data_most (k : Int) : dataMost k = dataOf k := by
  unfold dataMost dataOf
  repeat' split
  all_goals first | rfl | omega
theorem right_in (k0 k1 k2 k3 k4 : Int) : rightB k0 k1 k2 k3 k4 = decide ((0 ≤ k0 ∧ k0 ≤ 14) ∧ InB k0 k1 k2 k3 k4) := by
  unfold rightB InB
  rw [hid_many, hver_most, hr_rights, data_most]
  rw [Bool.eq_iff_iff]
  simp only [wB, Bool.and_eq_true, decide_eq_true_eq]
  omega
theorem right_of_code {k0 k1 k2 k3 k4 : Int} (h : codeOf k0 k1 k2 k3 k4 = 0) : rightB k0 k1 k2 k3 k4 = true := by
  rw [right_in, decide_eq_true_iff]
  unfold codeOf at h
  split at h
  · omega
  · split at h
    · exact ⟨by omega, by assumption⟩
    · omega
end Go.Proofs.YtncopdhhchmpeaaGreatDoor
namespace Go.Proofs.YtncopdhhchmpeaaGreatDoor
open Go.ChangeShapes Go.WideShapes Go.ChangeAt Go.RowKit
set_option linter.unusedVariables false
set_option linter.unusedSimpArgs false
def cnt01 (b : Bool) : Int := if b = true then 1 else 0
/-- The cells of a call, with two keys of its note. -/
structure CallJ (cs : List Value) (s : Nat) (o : Int) (m0 m1 m2 m3 m4 n0 n1 n2 n3 n4 : Int) : Prop where
  len : cs.length = 25
  c6 : cs[6]? = some (.int .u32 o)
  a0 : cs[10]? = some (.int .i64 m0)
  a1 : cs[11]? = some (.int .i64 m1)
  a2 : cs[12]? = some (.int .i64 m2)
  a3 : cs[13]? = some (.int .i64 m3)
  a4 : cs[14]? = some (.int .u32 m4)
  b0 : cs[15]? = some (.int .i64 n0)
  b1 : cs[16]? = some (.int .i64 n1)
  b2 : cs[17]? = some (.int .i64 n2)
  b3 : cs[18]? = some (.int .i64 n3)
  b4 : cs[19]? = some (.int .u32 n4)
theorem c25_j (s : Nat) (k0 k1 k2 k3 k4 : Int) (o a b c : Int) (m0 m1 m2 m3 m4 : Int) (n0 n1 n2 n3 n4 : Int) (p0 p1 p2 p3 p4 : Int) : CallJ ([.pointer (some ⟨s, 0, none⟩), .int .i64 k0, .int .i64 k1, .int .i64 k2, .int .i64 k3, .int .u32 k4, .int .u32 o, .int .u32 a, .int .u32 b, .int .u32 c, .int .i64 m0, .int .i64 m1, .int .i64 m2, .int .i64 m3, .int .u32 m4, .int .i64 n0, .int .i64 n1, .int .i64 n2, .int .i64 n3, .int .u32 n4, .int .i64 p0, .int .i64 p1, .int .i64 p2, .int .i64 p3, .int .u32 p4] : List Value) s o m0 m1 m2 m3 m4 n0 n1 n2 n3 n4 := ⟨rfl, rfl, rfl, rfl, rfl, rfl, rfl, rfl, rfl, rfl, rfl, rfl⟩
section
variable {cs : List Value} {s : Nat} {o m0 m1 m2 m3 m4 n0 n1 n2 n3 n4 : Int}
set_option maxRecDepth 100000 in
set_option maxHeartbeats 1000000 in
theorem osent_is (hc : Hid (CallJ cs s o m0 m1 m2 m3 m4 n0 n1 n2 n3 n4)) (w : World) : Calls Tryz.prog 139 #[.agg cs.toArray] w fun e w' => e = .returned (Value.agg #[.int .i64 m0, .int .i64 m1, .int .i64 m2, .int .i64 m3, .int .u32 m4]) ∧ Below w.heap.size w w' := by
  go_enter Tryz.func139, Tryz.ntmps139
  go_upto_region 1 with fail
  generalize hA : World.alloc w _ = wK
  have HK : Hid (Below w.heap.size w wK ∧ wK.rangeAt w.heap.size 0 cs ∧ wK.heap.size = w.heap.size + 1) := Lib.hid (by rw [← hA]; exact ⟨(Below.refl _ _).alloc (Nat.le_refl _) _, cbox _ _ _, by simp⟩)
  clear hA
  generalize hA : World.alloc wK _ = wA
  obtain ⟨R, hR⟩ : ∃ R, R = w.heap.size + 1 := ⟨_, rfl⟩
  have HA : Hid (Below w.heap.size w wA ∧ wA.rangeAt w.heap.size 0 cs ∧ KeyC wA R 0 0 0 0 0 ∧ w.heap.size ≤ R) := Lib.hid (by rw [← hA, hR, ← HK.out.2.2]; exact ⟨HK.out.1.alloc HK.out.1.size _, range_below HK.out.2.1 ((Below.refl _ _).alloc (Nat.le_refl _) _) (by have := HK.out.2.2; omega), KeyC.new _ _ _ _ _ _ _, HK.out.1.size⟩)
  rw [← hR]
  clear hA hR
  have p0 := CallC.cell HA.out.2.1 10 _ hc.out.a0; have p1 := CallC.cell HA.out.2.1 11 _ hc.out.a1; have p2 := CallC.cell HA.out.2.1 12 _ hc.out.a2; have p3 := CallC.cell HA.out.2.1 13 _ hc.out.a3; have p4 := CallC.cell HA.out.2.1 14 _ hc.out.a4
  have z0 := HA.out.2.2.1.c0; have z1 := HA.out.2.2.1.c1; have z2 := HA.out.2.2.1.c2; have z3 := HA.out.2.2.1.c3; have z4 := HA.out.2.2.1.c4; have f0 := HA.out.2.2.1.fr 0; have f1 := HA.out.2.2.1.fr 1; have f2 := HA.out.2.2.1.fr 2; have f3 := HA.out.2.2.1.fr 3; have f4 := HA.out.2.2.1.fr 4
  go_wp2_with fail
  have t := HA.out.2.2.1.set m0 m1 m2 m3 m4
  have t0 := t.c0
  have t1 := t.c1
  have t2 := t.c2
  have t3 := t.c3
  have t4 := t.c4
  refine bodyPost_ret (v := (Value.agg #[.int .i64 m0, .int .i64 m1, .int .i64 m2, .int .i64 m3, .int .u32 m4])) (by simp [results, Tryz.results139, go_sem, t0, t1, t2, t3, t4]) rfl ⟨rfl, ?_⟩
  have hR := HA.out.2.2.2
  exact ((((HA.out.1.setCell hR _).setCell hR _).setCell hR _).setCell hR _).setCell hR _
end
end Go.Proofs.YtncopdhhchmpeaaGreatDoor
namespace Go.Proofs.YtncopdhhchmpeaaGreatDoor
open Go.ChangeShapes Go.WideShapes Go.ChangeAt Go.RowKit
set_option linter.unusedVariables false
set_option linter.unusedSimpArgs false
section
variable {cs : List Value} {s : Nat} {k0 k1 k2 k3 k4 o x : Int}
set_option maxRecDepth 100000 in
set_option maxHeartbeats 4000000 in
theorem bad_number (hc : Hid (CallC cs s k0 k1 k2 k3 k4 o x)) (ho : 20 ≤ o) (w : World) : Calls Tryz.prog 112 #[(.agg cs.toArray)] w fun e w' => e = .returned (Value.agg #[.int .u32 2, .int .u32 0, .int .u32 0, .int .u32 0, .int .i64 0, .int .i64 0, .int .i64 0, .int .i64 0, .int .u32 0, .int .i64 0, .int .i64 0, .int .i64 0, .int .i64 0, .int .u32 0, .int .i64 0, .int .i64 0, .int .i64 0, .int .i64 0, .int .u32 0]) ∧ Below w.heap.size w w' := by
  have e0 : (o == 0) = false := (by rw [beq_eq_false_iff_ne]; omega); have e1 : (o == 1) = false := (by rw [beq_eq_false_iff_ne]; omega); have e2 : (o == 2) = false := (by rw [beq_eq_false_iff_ne]; omega); have e3 : (o == 3) = false := (by rw [beq_eq_false_iff_ne]; omega); have e4 : (o == 4) = false := (by rw [beq_eq_false_iff_ne]; omega); have e5 : (o == 5) = false := (by rw [beq_eq_false_iff_ne]; omega); have e6 : (o == 6) = false := (by rw [beq_eq_false_iff_ne]; omega); have e7 : (o == 7) = false := (by rw [beq_eq_false_iff_ne]; omega); have e8 : (o == 8) = false := (by rw [beq_eq_false_iff_ne]; omega); have e9 : (o == 9) = false := (by rw [beq_eq_false_iff_ne]; omega); have en : (o != 0) = true := (by rw [bne_iff_ne]; omega); go_enter Tryz.func112, Tryz.ntmps112; go_upto_region 1 with fail; generalize hA : World.alloc w _ = wK; obtain ⟨C, hC⟩ : ∃ C, C = w.heap.size := ⟨_, rfl⟩; have HK : Hid (Below w.heap.size w wK ∧ wK.rangeAt C 0 cs ∧ wK.heap.size = C + 1) := Lib.hid (by rw [← hA, hC]; exact ⟨(Below.refl _ _).alloc (Nat.le_refl _) _, cbox _ _ _, by simp⟩); have HCl : Hid (w.heap.size ≤ C) := Lib.hid (by rw [hC]; exact Nat.le_refl _); rw [← hC]; clear hA hC; generalize hA : World.alloc wK _ = wA; obtain ⟨R, hR⟩ : ∃ R, R = C + 1 := ⟨_, rfl⟩; have HA : Hid (Below w.heap.size w wA ∧ wA.rangeAt C 0 cs ∧ World.there wA R 0 19 ∧ C < R ∧ R < wA.heap.size) := Lib.hid (by rw [← hA, hR, ← HK.out.2.2]; exact ⟨HK.out.1.alloc HK.out.1.size _, range_below HK.out.2.1 ((Below.refl _ _).alloc (Nat.le_refl _) _) (by have := HK.out.2.2; omega), nthere_new _ _ 19 (by rfl) _, by have := HK.out.2.2; omega, by simp⟩); rw [← hR]; clear hA hR; have q6 := CallC.cell HA.out.2.1 6 _ hc.out.c6; have q2 := CallC.cell HA.out.2.1 2 _ hc.out.c2
  go_wp2_with (first | (go_at_call 124; (with_reducible refine (ofails_is 2 (by decide) (by decide) _).mono ?_); rintro e w1 ⟨rfl, hb⟩; have HB1 := Lib.hid hb; have HT1 : Hid (World.there w1 R 0 19) := Lib.hid (nthere_below HA.out.2.2.1 hb HA.out.2.2.2.2); clear hb) | (refine wpList_store_mid (by rfl) _ _ _ (by rfl) R 0 ([.int .u32 2, .int .u32 0, .int .u32 0, .int .u32 0, .int .i64 0, .int .i64 0, .int .i64 0, .int .i64 0, .int .u32 0, .int .i64 0, .int .i64 0, .int .i64 0, .int .i64 0, .int .u32 0, .int .i64 0, .int .i64 0, .int .i64 0, .int .i64 0, .int .u32 0] : List Value).toArray (by rfl) (by rfl) HT1.out infoNote (note_one _ _ _ _ _ _ _ _ _ _ _ _ _ _ _ _ _ _ _) ?_))
  have hRn : w.heap.size ≤ R := (by have := HA.out.2.2.2.1; have := HCl.out; omega); generalize hS : World.setCells w1 _ _ _ = wS; have HS : Hid (Below w.heap.size w wS ∧ wS.rangeAt R 0 [.int .u32 2, .int .u32 0, .int .u32 0, .int .u32 0, .int .i64 0, .int .i64 0, .int .i64 0, .int .i64 0, .int .u32 0, .int .i64 0, .int .i64 0, .int .i64 0, .int .i64 0, .int .u32 0, .int .i64 0, .int .i64 0, .int .i64 0, .int .i64 0, .int .u32 0]) := Lib.hid (by rw [← hS]; exact ⟨nbelow_cells (HA.out.1.trans (HB1.out.mono HA.out.1.size)) hRn _ _, World.rangeAt_setCells_same w1 R 0 [.int .u32 2, .int .u32 0, .int .u32 0, .int .u32 0, .int .i64 0, .int .i64 0, .int .i64 0, .int .i64 0, .int .u32 0, .int .i64 0, .int .i64 0, .int .i64 0, .int .i64 0, .int .u32 0, .int .i64 0, .int .i64 0, .int .i64 0, .int .i64 0, .int .u32 0] HT1.out⟩); have hld := nload rfl HS.out.2; refine bodyPost_ret (v := (Value.agg #[.int .u32 2, .int .u32 0, .int .u32 0, .int .u32 0, .int .i64 0, .int .i64 0, .int .i64 0, .int .i64 0, .int .u32 0, .int .i64 0, .int .i64 0, .int .i64 0, .int .i64 0, .int .u32 0, .int .i64 0, .int .i64 0, .int .i64 0, .int .i64 0, .int .u32 0])) (by simp [results, Tryz.results112, Act.put, asAddr, hld]) rfl ⟨rfl, HS.out.1⟩
set_option maxRecDepth 100000 in
set_option maxHeartbeats 4000000 in
theorem bad_creator (hc : Hid (CallC cs s k0 k1 k2 k3 k4 o x)) (ho : 20 ≤ o) (w : World) : Calls Tryz.prog 120 #[(.agg cs.toArray)] w fun e w' => e = .returned (Value.agg #[.int .u32 2, .int .u32 0, .int .u32 0, .int .u32 0, .int .i64 0, .int .i64 0, .int .i64 0, .int .i64 0, .int .u32 0, .int .i64 0, .int .i64 0, .int .i64 0, .int .i64 0, .int .u32 0, .int .i64 0, .int .i64 0, .int .i64 0, .int .i64 0, .int .u32 0]) ∧ Below w.heap.size w w' := by
  have e0 : (o == 0) = false := (by rw [beq_eq_false_iff_ne]; omega); have e1 : (o == 1) = false := (by rw [beq_eq_false_iff_ne]; omega); have e2 : (o == 2) = false := (by rw [beq_eq_false_iff_ne]; omega); have e3 : (o == 3) = false := (by rw [beq_eq_false_iff_ne]; omega); have e4 : (o == 4) = false := (by rw [beq_eq_false_iff_ne]; omega); have e5 : (o == 5) = false := (by rw [beq_eq_false_iff_ne]; omega); have e6 : (o == 6) = false := (by rw [beq_eq_false_iff_ne]; omega); have e7 : (o == 7) = false := (by rw [beq_eq_false_iff_ne]; omega); have e8 : (o == 8) = false := (by rw [beq_eq_false_iff_ne]; omega); have e9 : (o == 9) = false := (by rw [beq_eq_false_iff_ne]; omega); have en : (o != 0) = true := (by rw [bne_iff_ne]; omega); go_enter Tryz.func120, Tryz.ntmps120; go_upto_region 1 with fail; generalize hA : World.alloc w _ = wK; obtain ⟨C, hC⟩ : ∃ C, C = w.heap.size := ⟨_, rfl⟩; have HK : Hid (Below w.heap.size w wK ∧ wK.rangeAt C 0 cs ∧ wK.heap.size = C + 1) := Lib.hid (by rw [← hA, hC]; exact ⟨(Below.refl _ _).alloc (Nat.le_refl _) _, cbox _ _ _, by simp⟩); have HCl : Hid (w.heap.size ≤ C) := Lib.hid (by rw [hC]; exact Nat.le_refl _); rw [← hC]; clear hA hC; generalize hA : World.alloc wK _ = wA; obtain ⟨R, hR⟩ : ∃ R, R = C + 1 := ⟨_, rfl⟩; have HA : Hid (Below w.heap.size w wA ∧ wA.rangeAt C 0 cs ∧ World.there wA R 0 19 ∧ C < R ∧ R < wA.heap.size) := Lib.hid (by rw [← hA, hR, ← HK.out.2.2]; exact ⟨HK.out.1.alloc HK.out.1.size _, range_below HK.out.2.1 ((Below.refl _ _).alloc (Nat.le_refl _) _) (by have := HK.out.2.2; omega), nthere_new _ _ 19 (by rfl) _, by have := HK.out.2.2; omega, by simp⟩); rw [← hR]; clear hA hR; have q6 := CallC.cell HA.out.2.1 6 _ hc.out.c6; have q2 := CallC.cell HA.out.2.1 2 _ hc.out.c2
  go_wp2_with (first | (go_at_call 124; (with_reducible refine (ofails_is 2 (by decide) (by decide) _).mono ?_); rintro e w1 ⟨rfl, hb⟩; have HB1 := Lib.hid hb; have HT1 : Hid (World.there w1 R 0 19) := Lib.hid (nthere_below HA.out.2.2.1 hb HA.out.2.2.2.2); clear hb) | (refine wpList_store_mid (by rfl) _ _ _ (by rfl) R 0 ([.int .u32 2, .int .u32 0, .int .u32 0, .int .u32 0, .int .i64 0, .int .i64 0, .int .i64 0, .int .i64 0, .int .u32 0, .int .i64 0, .int .i64 0, .int .i64 0, .int .i64 0, .int .u32 0, .int .i64 0, .int .i64 0, .int .i64 0, .int .i64 0, .int .u32 0] : List Value).toArray (by rfl) (by rfl) HT1.out infoNote (note_one _ _ _ _ _ _ _ _ _ _ _ _ _ _ _ _ _ _ _) ?_))
  have hRn : w.heap.size ≤ R := (by have := HA.out.2.2.2.1; have := HCl.out; omega); generalize hS : World.setCells w1 _ _ _ = wS; have HS : Hid (Below w.heap.size w wS ∧ wS.rangeAt R 0 [.int .u32 2, .int .u32 0, .int .u32 0, .int .u32 0, .int .i64 0, .int .i64 0, .int .i64 0, .int .i64 0, .int .u32 0, .int .i64 0, .int .i64 0, .int .i64 0, .int .i64 0, .int .u32 0, .int .i64 0, .int .i64 0, .int .i64 0, .int .i64 0, .int .u32 0]) := Lib.hid (by rw [← hS]; exact ⟨nbelow_cells (HA.out.1.trans (HB1.out.mono HA.out.1.size)) hRn _ _, World.rangeAt_setCells_same w1 R 0 [.int .u32 2, .int .u32 0, .int .u32 0, .int .u32 0, .int .i64 0, .int .i64 0, .int .i64 0, .int .i64 0, .int .u32 0, .int .i64 0, .int .i64 0, .int .i64 0, .int .i64 0, .int .u32 0, .int .i64 0, .int .i64 0, .int .i64 0, .int .i64 0, .int .u32 0] HT1.out⟩); have hld := nload rfl HS.out.2; refine bodyPost_ret (v := (Value.agg #[.int .u32 2, .int .u32 0, .int .u32 0, .int .u32 0, .int .i64 0, .int .i64 0, .int .i64 0, .int .i64 0, .int .u32 0, .int .i64 0, .int .i64 0, .int .i64 0, .int .i64 0, .int .u32 0, .int .i64 0, .int .i64 0, .int .i64 0, .int .i64 0, .int .u32 0])) (by simp [results, Tryz.results120, Act.put, asAddr, hld]) rfl ⟨rfl, HS.out.1⟩
set_option maxRecDepth 100000 in
set_option maxHeartbeats 4000000 in
theorem bad_clock (hc : Hid (CallC cs s k0 k1 k2 k3 k4 o x)) (ho : 20 ≤ o) (w : World) : Calls Tryz.prog 123 #[(.agg cs.toArray)] w fun e w' => e = .returned (Value.agg #[.int .u32 2, .int .u32 0, .int .u32 0, .int .u32 0, .int .i64 0, .int .i64 0, .int .i64 0, .int .i64 0, .int .u32 0, .int .i64 0, .int .i64 0, .int .i64 0, .int .i64 0, .int .u32 0, .int .i64 0, .int .i64 0, .int .i64 0, .int .i64 0, .int .u32 0]) ∧ Below w.heap.size w w' := by
  have e0 : (o == 0) = false := (by rw [beq_eq_false_iff_ne]; omega); have e1 : (o == 1) = false := (by rw [beq_eq_false_iff_ne]; omega); have e2 : (o == 2) = false := (by rw [beq_eq_false_iff_ne]; omega); have e3 : (o == 3) = false := (by rw [beq_eq_false_iff_ne]; omega); have e4 : (o == 4) = false := (by rw [beq_eq_false_iff_ne]; omega); have e5 : (o == 5) = false := (by rw [beq_eq_false_iff_ne]; omega); have e6 : (o == 6) = false := (by rw [beq_eq_false_iff_ne]; omega); have e7 : (o == 7) = false := (by rw [beq_eq_false_iff_ne]; omega); have e8 : (o == 8) = false := (by rw [beq_eq_false_iff_ne]; omega); have e9 : (o == 9) = false := (by rw [beq_eq_false_iff_ne]; omega); have en : (o != 0) = true := (by rw [bne_iff_ne]; omega); go_enter Tryz.func123, Tryz.ntmps123; go_upto_region 1 with fail; generalize hA : World.alloc w _ = wK; obtain ⟨C, hC⟩ : ∃ C, C = w.heap.size := ⟨_, rfl⟩; have HK : Hid (Below w.heap.size w wK ∧ wK.rangeAt C 0 cs ∧ wK.heap.size = C + 1) := Lib.hid (by rw [← hA, hC]; exact ⟨(Below.refl _ _).alloc (Nat.le_refl _) _, cbox _ _ _, by simp⟩); have HCl : Hid (w.heap.size ≤ C) := Lib.hid (by rw [hC]; exact Nat.le_refl _); rw [← hC]; clear hA hC; generalize hA : World.alloc wK _ = wA; obtain ⟨R, hR⟩ : ∃ R, R = C + 1 := ⟨_, rfl⟩; have HA : Hid (Below w.heap.size w wA ∧ wA.rangeAt C 0 cs ∧ World.there wA R 0 19 ∧ C < R ∧ R < wA.heap.size) := Lib.hid (by rw [← hA, hR, ← HK.out.2.2]; exact ⟨HK.out.1.alloc HK.out.1.size _, range_below HK.out.2.1 ((Below.refl _ _).alloc (Nat.le_refl _) _) (by have := HK.out.2.2; omega), nthere_new _ _ 19 (by rfl) _, by have := HK.out.2.2; omega, by simp⟩); rw [← hR]; clear hA hR; have q6 := CallC.cell HA.out.2.1 6 _ hc.out.c6; have q2 := CallC.cell HA.out.2.1 2 _ hc.out.c2
  go_wp2_with (first | (go_at_call 124; (with_reducible refine (ofails_is 2 (by decide) (by decide) _).mono ?_); rintro e w1 ⟨rfl, hb⟩; have HB1 := Lib.hid hb; have HT1 : Hid (World.there w1 R 0 19) := Lib.hid (nthere_below HA.out.2.2.1 hb HA.out.2.2.2.2); clear hb) | (refine wpList_store_mid (by rfl) _ _ _ (by rfl) R 0 ([.int .u32 2, .int .u32 0, .int .u32 0, .int .u32 0, .int .i64 0, .int .i64 0, .int .i64 0, .int .i64 0, .int .u32 0, .int .i64 0, .int .i64 0, .int .i64 0, .int .i64 0, .int .u32 0, .int .i64 0, .int .i64 0, .int .i64 0, .int .i64 0, .int .u32 0] : List Value).toArray (by rfl) (by rfl) HT1.out infoNote (note_one _ _ _ _ _ _ _ _ _ _ _ _ _ _ _ _ _ _ _) ?_))
  have hRn : w.heap.size ≤ R := (by have := HA.out.2.2.2.1; have := HCl.out; omega); generalize hS : World.setCells w1 _ _ _ = wS; have HS : Hid (Below w.heap.size w wS ∧ wS.rangeAt R 0 [.int .u32 2, .int .u32 0, .int .u32 0, .int .u32 0, .int .i64 0, .int .i64 0, .int .i64 0, .int .i64 0, .int .u32 0, .int .i64 0, .int .i64 0, .int .i64 0, .int .i64 0, .int .u32 0, .int .i64 0, .int .i64 0, .int .i64 0, .int .i64 0, .int .u32 0]) := Lib.hid (by rw [← hS]; exact ⟨nbelow_cells (HA.out.1.trans (HB1.out.mono HA.out.1.size)) hRn _ _, World.rangeAt_setCells_same w1 R 0 [.int .u32 2, .int .u32 0, .int .u32 0, .int .u32 0, .int .i64 0, .int .i64 0, .int .i64 0, .int .i64 0, .int .u32 0, .int .i64 0, .int .i64 0, .int .i64 0, .int .i64 0, .int .u32 0, .int .i64 0, .int .i64 0, .int .i64 0, .int .i64 0, .int .u32 0] HT1.out⟩); have hld := nload rfl HS.out.2; refine bodyPost_ret (v := (Value.agg #[.int .u32 2, .int .u32 0, .int .u32 0, .int .u32 0, .int .i64 0, .int .i64 0, .int .i64 0, .int .i64 0, .int .u32 0, .int .i64 0, .int .i64 0, .int .i64 0, .int .i64 0, .int .u32 0, .int .i64 0, .int .i64 0, .int .i64 0, .int .i64 0, .int .u32 0])) (by simp [results, Tryz.results123, Act.put, asAddr, hld]) rfl ⟨rfl, HS.out.1⟩
set_option maxRecDepth 100000 in
set_option maxHeartbeats 4000000 in
theorem bad_console (hc : Hid (CallC cs s k0 k1 k2 k3 k4 o x)) (ho : 20 ≤ o) (w : World) : Calls Tryz.prog 122 #[(.agg cs.toArray)] w fun e w' => e = .returned (Value.agg #[.int .u32 2, .int .u32 0, .int .u32 0, .int .u32 0, .int .i64 0, .int .i64 0, .int .i64 0, .int .i64 0, .int .u32 0, .int .i64 0, .int .i64 0, .int .i64 0, .int .i64 0, .int .u32 0, .int .i64 0, .int .i64 0, .int .i64 0, .int .i64 0, .int .u32 0]) ∧ Below w.heap.size w w' := by
  have e0 : (o == 0) = false := (by rw [beq_eq_false_iff_ne]; omega); have e1 : (o == 1) = false := (by rw [beq_eq_false_iff_ne]; omega); have e2 : (o == 2) = false := (by rw [beq_eq_false_iff_ne]; omega); have e3 : (o == 3) = false := (by rw [beq_eq_false_iff_ne]; omega); have e4 : (o == 4) = false := (by rw [beq_eq_false_iff_ne]; omega); have e5 : (o == 5) = false := (by rw [beq_eq_false_iff_ne]; omega); have e6 : (o == 6) = false := (by rw [beq_eq_false_iff_ne]; omega); have e7 : (o == 7) = false := (by rw [beq_eq_false_iff_ne]; omega); have e8 : (o == 8) = false := (by rw [beq_eq_false_iff_ne]; omega); have e9 : (o == 9) = false := (by rw [beq_eq_false_iff_ne]; omega); have en : (o != 0) = true := (by rw [bne_iff_ne]; omega); go_enter Tryz.func122, Tryz.ntmps122; go_upto_region 1 with fail; generalize hA : World.alloc w _ = wK; obtain ⟨C, hC⟩ : ∃ C, C = w.heap.size := ⟨_, rfl⟩; have HK : Hid (Below w.heap.size w wK ∧ wK.rangeAt C 0 cs ∧ wK.heap.size = C + 1) := Lib.hid (by rw [← hA, hC]; exact ⟨(Below.refl _ _).alloc (Nat.le_refl _) _, cbox _ _ _, by simp⟩); have HCl : Hid (w.heap.size ≤ C) := Lib.hid (by rw [hC]; exact Nat.le_refl _); rw [← hC]; clear hA hC; generalize hA : World.alloc wK _ = wA; obtain ⟨R, hR⟩ : ∃ R, R = C + 1 := ⟨_, rfl⟩; have HA : Hid (Below w.heap.size w wA ∧ wA.rangeAt C 0 cs ∧ World.there wA R 0 19 ∧ C < R ∧ R < wA.heap.size) := Lib.hid (by rw [← hA, hR, ← HK.out.2.2]; exact ⟨HK.out.1.alloc HK.out.1.size _, range_below HK.out.2.1 ((Below.refl _ _).alloc (Nat.le_refl _) _) (by have := HK.out.2.2; omega), nthere_new _ _ 19 (by rfl) _, by have := HK.out.2.2; omega, by simp⟩); rw [← hR]; clear hA hR; have q6 := CallC.cell HA.out.2.1 6 _ hc.out.c6; have q2 := CallC.cell HA.out.2.1 2 _ hc.out.c2
  go_wp2_with (first | (go_at_call 124; (with_reducible refine (ofails_is 2 (by decide) (by decide) _).mono ?_); rintro e w1 ⟨rfl, hb⟩; have HB1 := Lib.hid hb; have HT1 : Hid (World.there w1 R 0 19) := Lib.hid (nthere_below HA.out.2.2.1 hb HA.out.2.2.2.2); clear hb) | (refine wpList_store_mid (by rfl) _ _ _ (by rfl) R 0 ([.int .u32 2, .int .u32 0, .int .u32 0, .int .u32 0, .int .i64 0, .int .i64 0, .int .i64 0, .int .i64 0, .int .u32 0, .int .i64 0, .int .i64 0, .int .i64 0, .int .i64 0, .int .u32 0, .int .i64 0, .int .i64 0, .int .i64 0, .int .i64 0, .int .u32 0] : List Value).toArray (by rfl) (by rfl) HT1.out infoNote (note_one _ _ _ _ _ _ _ _ _ _ _ _ _ _ _ _ _ _ _) ?_))
  have hRn : w.heap.size ≤ R := (by have := HA.out.2.2.2.1; have := HCl.out; omega); generalize hS : World.setCells w1 _ _ _ = wS; have HS : Hid (Below w.heap.size w wS ∧ wS.rangeAt R 0 [.int .u32 2, .int .u32 0, .int .u32 0, .int .u32 0, .int .i64 0, .int .i64 0, .int .i64 0, .int .i64 0, .int .u32 0, .int .i64 0, .int .i64 0, .int .i64 0, .int .i64 0, .int .u32 0, .int .i64 0, .int .i64 0, .int .i64 0, .int .i64 0, .int .u32 0]) := Lib.hid (by rw [← hS]; exact ⟨nbelow_cells (HA.out.1.trans (HB1.out.mono HA.out.1.size)) hRn _ _, World.rangeAt_setCells_same w1 R 0 [.int .u32 2, .int .u32 0, .int .u32 0, .int .u32 0, .int .i64 0, .int .i64 0, .int .i64 0, .int .i64 0, .int .u32 0, .int .i64 0, .int .i64 0, .int .i64 0, .int .i64 0, .int .u32 0, .int .i64 0, .int .i64 0, .int .i64 0, .int .i64 0, .int .u32 0] HT1.out⟩); have hld := nload rfl HS.out.2; refine bodyPost_ret (v := (Value.agg #[.int .u32 2, .int .u32 0, .int .u32 0, .int .u32 0, .int .i64 0, .int .i64 0, .int .i64 0, .int .i64 0, .int .u32 0, .int .i64 0, .int .i64 0, .int .i64 0, .int .i64 0, .int .u32 0, .int .i64 0, .int .i64 0, .int .i64 0, .int .i64 0, .int .u32 0])) (by simp [results, Tryz.results122, Act.put, asAddr, hld]) rfl ⟨rfl, HS.out.1⟩
set_option maxRecDepth 100000 in
set_option maxHeartbeats 4000000 in
theorem bad_meter (hc : Hid (CallC cs s k0 k1 k2 k3 k4 o x)) (ho : 20 ≤ o) (w : World) : Calls Tryz.prog 116 #[(.agg cs.toArray)] w fun e w' => e = .returned (Value.agg #[.int .u32 2, .int .u32 0, .int .u32 0, .int .u32 0, .int .i64 0, .int .i64 0, .int .i64 0, .int .i64 0, .int .u32 0, .int .i64 0, .int .i64 0, .int .i64 0, .int .i64 0, .int .u32 0, .int .i64 0, .int .i64 0, .int .i64 0, .int .i64 0, .int .u32 0]) ∧ Below w.heap.size w w' := by
  have e0 : (o == 0) = false := (by rw [beq_eq_false_iff_ne]; omega); have e1 : (o == 1) = false := (by rw [beq_eq_false_iff_ne]; omega); have e2 : (o == 2) = false := (by rw [beq_eq_false_iff_ne]; omega); have e3 : (o == 3) = false := (by rw [beq_eq_false_iff_ne]; omega); have e4 : (o == 4) = false := (by rw [beq_eq_false_iff_ne]; omega); have e5 : (o == 5) = false := (by rw [beq_eq_false_iff_ne]; omega); have e6 : (o == 6) = false := (by rw [beq_eq_false_iff_ne]; omega); have e7 : (o == 7) = false := (by rw [beq_eq_false_iff_ne]; omega); have e8 : (o == 8) = false := (by rw [beq_eq_false_iff_ne]; omega); have e9 : (o == 9) = false := (by rw [beq_eq_false_iff_ne]; omega); have en : (o != 0) = true := (by rw [bne_iff_ne]; omega); go_enter Tryz.func116, Tryz.ntmps116; go_upto_region 1 with fail; generalize hA : World.alloc w _ = wK; obtain ⟨C, hC⟩ : ∃ C, C = w.heap.size := ⟨_, rfl⟩; have HK : Hid (Below w.heap.size w wK ∧ wK.rangeAt C 0 cs ∧ wK.heap.size = C + 1) := Lib.hid (by rw [← hA, hC]; exact ⟨(Below.refl _ _).alloc (Nat.le_refl _) _, cbox _ _ _, by simp⟩); have HCl : Hid (w.heap.size ≤ C) := Lib.hid (by rw [hC]; exact Nat.le_refl _); rw [← hC]; clear hA hC; generalize hA : World.alloc wK _ = wA; obtain ⟨R, hR⟩ : ∃ R, R = C + 1 := ⟨_, rfl⟩; have HA : Hid (Below w.heap.size w wA ∧ wA.rangeAt C 0 cs ∧ World.there wA R 0 19 ∧ C < R ∧ R < wA.heap.size) := Lib.hid (by rw [← hA, hR, ← HK.out.2.2]; exact ⟨HK.out.1.alloc HK.out.1.size _, range_below HK.out.2.1 ((Below.refl _ _).alloc (Nat.le_refl _) _) (by have := HK.out.2.2; omega), nthere_new _ _ 19 (by rfl) _, by have := HK.out.2.2; omega, by simp⟩); rw [← hR]; clear hA hR; have q6 := CallC.cell HA.out.2.1 6 _ hc.out.c6; have q2 := CallC.cell HA.out.2.1 2 _ hc.out.c2
  go_wp2_with (first | (go_at_call 124; (with_reducible refine (ofails_is 2 (by decide) (by decide) _).mono ?_); rintro e w1 ⟨rfl, hb⟩; have HB1 := Lib.hid hb; have HT1 : Hid (World.there w1 R 0 19) := Lib.hid (nthere_below HA.out.2.2.1 hb HA.out.2.2.2.2); clear hb) | (refine wpList_store_mid (by rfl) _ _ _ (by rfl) R 0 ([.int .u32 2, .int .u32 0, .int .u32 0, .int .u32 0, .int .i64 0, .int .i64 0, .int .i64 0, .int .i64 0, .int .u32 0, .int .i64 0, .int .i64 0, .int .i64 0, .int .i64 0, .int .u32 0, .int .i64 0, .int .i64 0, .int .i64 0, .int .i64 0, .int .u32 0] : List Value).toArray (by rfl) (by rfl) HT1.out infoNote (note_one _ _ _ _ _ _ _ _ _ _ _ _ _ _ _ _ _ _ _) ?_))
  have hRn : w.heap.size ≤ R := (by have := HA.out.2.2.2.1; have := HCl.out; omega); generalize hS : World.setCells w1 _ _ _ = wS; have HS : Hid (Below w.heap.size w wS ∧ wS.rangeAt R 0 [.int .u32 2, .int .u32 0, .int .u32 0, .int .u32 0, .int .i64 0, .int .i64 0, .int .i64 0, .int .i64 0, .int .u32 0, .int .i64 0, .int .i64 0, .int .i64 0, .int .i64 0, .int .u32 0, .int .i64 0, .int .i64 0, .int .i64 0, .int .i64 0, .int .u32 0]) := Lib.hid (by rw [← hS]; exact ⟨nbelow_cells (HA.out.1.trans (HB1.out.mono HA.out.1.size)) hRn _ _, World.rangeAt_setCells_same w1 R 0 [.int .u32 2, .int .u32 0, .int .u32 0, .int .u32 0, .int .i64 0, .int .i64 0, .int .i64 0, .int .i64 0, .int .u32 0, .int .i64 0, .int .i64 0, .int .i64 0, .int .i64 0, .int .u32 0, .int .i64 0, .int .i64 0, .int .i64 0, .int .i64 0, .int .u32 0] HT1.out⟩); have hld := nload rfl HS.out.2; refine bodyPost_ret (v := (Value.agg #[.int .u32 2, .int .u32 0, .int .u32 0, .int .u32 0, .int .i64 0, .int .i64 0, .int .i64 0, .int .i64 0, .int .u32 0, .int .i64 0, .int .i64 0, .int .i64 0, .int .i64 0, .int .u32 0, .int .i64 0, .int .i64 0, .int .i64 0, .int .i64 0, .int .u32 0])) (by simp [results, Tryz.results116, Act.put, asAddr, hld]) rfl ⟨rfl, HS.out.1⟩
set_option maxRecDepth 100000 in
set_option maxHeartbeats 4000000 in
theorem bad_maker (hc : Hid (CallC cs s k0 k1 k2 k3 k4 o x)) (ho : 20 ≤ o) (w : World) : Calls Tryz.prog 118 #[(.agg cs.toArray)] w fun e w' => e = .returned (Value.agg #[.int .u32 2, .int .u32 0, .int .u32 0, .int .u32 0, .int .i64 0, .int .i64 0, .int .i64 0, .int .i64 0, .int .u32 0, .int .i64 0, .int .i64 0, .int .i64 0, .int .i64 0, .int .u32 0, .int .i64 0, .int .i64 0, .int .i64 0, .int .i64 0, .int .u32 0]) ∧ Below w.heap.size w w' := by
  have e0 : (o == 0) = false := (by rw [beq_eq_false_iff_ne]; omega); have e1 : (o == 1) = false := (by rw [beq_eq_false_iff_ne]; omega); have e2 : (o == 2) = false := (by rw [beq_eq_false_iff_ne]; omega); have e3 : (o == 3) = false := (by rw [beq_eq_false_iff_ne]; omega); have e4 : (o == 4) = false := (by rw [beq_eq_false_iff_ne]; omega); have e5 : (o == 5) = false := (by rw [beq_eq_false_iff_ne]; omega); have e6 : (o == 6) = false := (by rw [beq_eq_false_iff_ne]; omega); have e7 : (o == 7) = false := (by rw [beq_eq_false_iff_ne]; omega); have e8 : (o == 8) = false := (by rw [beq_eq_false_iff_ne]; omega); have e9 : (o == 9) = false := (by rw [beq_eq_false_iff_ne]; omega); have en : (o != 0) = true := (by rw [bne_iff_ne]; omega); go_enter Tryz.func118, Tryz.ntmps118; go_upto_region 1 with fail; generalize hA : World.alloc w _ = wK; obtain ⟨C, hC⟩ : ∃ C, C = w.heap.size := ⟨_, rfl⟩; have HK : Hid (Below w.heap.size w wK ∧ wK.rangeAt C 0 cs ∧ wK.heap.size = C + 1) := Lib.hid (by rw [← hA, hC]; exact ⟨(Below.refl _ _).alloc (Nat.le_refl _) _, cbox _ _ _, by simp⟩); have HCl : Hid (w.heap.size ≤ C) := Lib.hid (by rw [hC]; exact Nat.le_refl _); rw [← hC]; clear hA hC; generalize hA : World.alloc wK _ = wA; obtain ⟨R, hR⟩ : ∃ R, R = C + 1 := ⟨_, rfl⟩; have HA : Hid (Below w.heap.size w wA ∧ wA.rangeAt C 0 cs ∧ World.there wA R 0 19 ∧ C < R ∧ R < wA.heap.size) := Lib.hid (by rw [← hA, hR, ← HK.out.2.2]; exact ⟨HK.out.1.alloc HK.out.1.size _, range_below HK.out.2.1 ((Below.refl _ _).alloc (Nat.le_refl _) _) (by have := HK.out.2.2; omega), nthere_new _ _ 19 (by rfl) _, by have := HK.out.2.2; omega, by simp⟩); rw [← hR]; clear hA hR; have q6 := CallC.cell HA.out.2.1 6 _ hc.out.c6; have q2 := CallC.cell HA.out.2.1 2 _ hc.out.c2
  go_wp2_with (first | (go_at_call 124; (with_reducible refine (ofails_is 2 (by decide) (by decide) _).mono ?_); rintro e w1 ⟨rfl, hb⟩; have HB1 := Lib.hid hb; have HT1 : Hid (World.there w1 R 0 19) := Lib.hid (nthere_below HA.out.2.2.1 hb HA.out.2.2.2.2); clear hb) | (refine wpList_store_mid (by rfl) _ _ _ (by rfl) R 0 ([.int .u32 2, .int .u32 0, .int .u32 0, .int .u32 0, .int .i64 0, .int .i64 0, .int .i64 0, .int .i64 0, .int .u32 0, .int .i64 0, .int .i64 0, .int .i64 0, .int .i64 0, .int .u32 0, .int .i64 0, .int .i64 0, .int .i64 0, .int .i64 0, .int .u32 0] : List Value).toArray (by rfl) (by rfl) HT1.out infoNote (note_one _ _ _ _ _ _ _ _ _ _ _ _ _ _ _ _ _ _ _) ?_))
  have hRn : w.heap.size ≤ R := (by have := HA.out.2.2.2.1; have := HCl.out; omega); generalize hS : World.setCells w1 _ _ _ = wS; have HS : Hid (Below w.heap.size w wS ∧ wS.rangeAt R 0 [.int .u32 2, .int .u32 0, .int .u32 0, .int .u32 0, .int .i64 0, .int .i64 0, .int .i64 0, .int .i64 0, .int .u32 0, .int .i64 0, .int .i64 0, .int .i64 0, .int .i64 0, .int .u32 0, .int .i64 0, .int .i64 0, .int .i64 0, .int .i64 0, .int .u32 0]) := Lib.hid (by rw [← hS]; exact ⟨nbelow_cells (HA.out.1.trans (HB1.out.mono HA.out.1.size)) hRn _ _, World.rangeAt_setCells_same w1 R 0 [.int .u32 2, .int .u32 0, .int .u32 0, .int .u32 0, .int .i64 0, .int .i64 0, .int .i64 0, .int .i64 0, .int .u32 0, .int .i64 0, .int .i64 0, .int .i64 0, .int .i64 0, .int .u32 0, .int .i64 0, .int .i64 0, .int .i64 0, .int .i64 0, .int .u32 0] HT1.out⟩); have hld := nload rfl HS.out.2; refine bodyPost_ret (v := (Value.agg #[.int .u32 2, .int .u32 0, .int .u32 0, .int .u32 0, .int .i64 0, .int .i64 0, .int .i64 0, .int .i64 0, .int .u32 0, .int .i64 0, .int .i64 0, .int .i64 0, .int .i64 0, .int .u32 0, .int .i64 0, .int .i64 0, .int .i64 0, .int .i64 0, .int .u32 0])) (by simp [results, Tryz.results118, Act.put, asAddr, hld]) rfl ⟨rfl, HS.out.1⟩
set_option maxRecDepth 100000 in
set_option maxHeartbeats 4000000 in
theorem bad_builder (hc : Hid (CallC cs s k0 k1 k2 k3 k4 o x)) (ho : 20 ≤ o) (w : World) : Calls Tryz.prog 119 #[(.agg cs.toArray)] w fun e w' => e = .returned (Value.agg #[.int .u32 2, .int .u32 0, .int .u32 0, .int .u32 0, .int .i64 0, .int .i64 0, .int .i64 0, .int .i64 0, .int .u32 0, .int .i64 0, .int .i64 0, .int .i64 0, .int .i64 0, .int .u32 0, .int .i64 0, .int .i64 0, .int .i64 0, .int .i64 0, .int .u32 0]) ∧ Below w.heap.size w w' := by
  have e0 : (o == 0) = false := (by rw [beq_eq_false_iff_ne]; omega); have e1 : (o == 1) = false := (by rw [beq_eq_false_iff_ne]; omega); have e2 : (o == 2) = false := (by rw [beq_eq_false_iff_ne]; omega); have e3 : (o == 3) = false := (by rw [beq_eq_false_iff_ne]; omega); have e4 : (o == 4) = false := (by rw [beq_eq_false_iff_ne]; omega); have e5 : (o == 5) = false := (by rw [beq_eq_false_iff_ne]; omega); have e6 : (o == 6) = false := (by rw [beq_eq_false_iff_ne]; omega); have e7 : (o == 7) = false := (by rw [beq_eq_false_iff_ne]; omega); have e8 : (o == 8) = false := (by rw [beq_eq_false_iff_ne]; omega); have e9 : (o == 9) = false := (by rw [beq_eq_false_iff_ne]; omega); have en : (o != 0) = true := (by rw [bne_iff_ne]; omega); go_enter Tryz.func119, Tryz.ntmps119; go_upto_region 1 with fail; generalize hA : World.alloc w _ = wK; obtain ⟨C, hC⟩ : ∃ C, C = w.heap.size := ⟨_, rfl⟩; have HK : Hid (Below w.heap.size w wK ∧ wK.rangeAt C 0 cs ∧ wK.heap.size = C + 1) := Lib.hid (by rw [← hA, hC]; exact ⟨(Below.refl _ _).alloc (Nat.le_refl _) _, cbox _ _ _, by simp⟩); have HCl : Hid (w.heap.size ≤ C) := Lib.hid (by rw [hC]; exact Nat.le_refl _); rw [← hC]; clear hA hC; generalize hA : World.alloc wK _ = wA; obtain ⟨R, hR⟩ : ∃ R, R = C + 1 := ⟨_, rfl⟩; have HA : Hid (Below w.heap.size w wA ∧ wA.rangeAt C 0 cs ∧ World.there wA R 0 19 ∧ C < R ∧ R < wA.heap.size) := Lib.hid (by rw [← hA, hR, ← HK.out.2.2]; exact ⟨HK.out.1.alloc HK.out.1.size _, range_below HK.out.2.1 ((Below.refl _ _).alloc (Nat.le_refl _) _) (by have := HK.out.2.2; omega), nthere_new _ _ 19 (by rfl) _, by have := HK.out.2.2; omega, by simp⟩); rw [← hR]; clear hA hR; have q6 := CallC.cell HA.out.2.1 6 _ hc.out.c6; have q2 := CallC.cell HA.out.2.1 2 _ hc.out.c2
  go_wp2_with (first | (go_at_call 124; (with_reducible refine (ofails_is 2 (by decide) (by decide) _).mono ?_); rintro e w1 ⟨rfl, hb⟩; have HB1 := Lib.hid hb; have HT1 : Hid (World.there w1 R 0 19) := Lib.hid (nthere_below HA.out.2.2.1 hb HA.out.2.2.2.2); clear hb) | (refine wpList_store_mid (by rfl) _ _ _ (by rfl) R 0 ([.int .u32 2, .int .u32 0, .int .u32 0, .int .u32 0, .int .i64 0, .int .i64 0, .int .i64 0, .int .i64 0, .int .u32 0, .int .i64 0, .int .i64 0, .int .i64 0, .int .i64 0, .int .u32 0, .int .i64 0, .int .i64 0, .int .i64 0, .int .i64 0, .int .u32 0] : List Value).toArray (by rfl) (by rfl) HT1.out infoNote (note_one _ _ _ _ _ _ _ _ _ _ _ _ _ _ _ _ _ _ _) ?_))
  have hRn : w.heap.size ≤ R := (by have := HA.out.2.2.2.1; have := HCl.out; omega); generalize hS : World.setCells w1 _ _ _ = wS; have HS : Hid (Below w.heap.size w wS ∧ wS.rangeAt R 0 [.int .u32 2, .int .u32 0, .int .u32 0, .int .u32 0, .int .i64 0, .int .i64 0, .int .i64 0, .int .i64 0, .int .u32 0, .int .i64 0, .int .i64 0, .int .i64 0, .int .i64 0, .int .u32 0, .int .i64 0, .int .i64 0, .int .i64 0, .int .i64 0, .int .u32 0]) := Lib.hid (by rw [← hS]; exact ⟨nbelow_cells (HA.out.1.trans (HB1.out.mono HA.out.1.size)) hRn _ _, World.rangeAt_setCells_same w1 R 0 [.int .u32 2, .int .u32 0, .int .u32 0, .int .u32 0, .int .i64 0, .int .i64 0, .int .i64 0, .int .i64 0, .int .u32 0, .int .i64 0, .int .i64 0, .int .i64 0, .int .i64 0, .int .u32 0, .int .i64 0, .int .i64 0, .int .i64 0, .int .i64 0, .int .u32 0] HT1.out⟩); have hld := nload rfl HS.out.2; refine bodyPost_ret (v := (Value.agg #[.int .u32 2, .int .u32 0, .int .u32 0, .int .u32 0, .int .i64 0, .int .i64 0, .int .i64 0, .int .i64 0, .int .u32 0, .int .i64 0, .int .i64 0, .int .i64 0, .int .i64 0, .int .u32 0, .int .i64 0, .int .i64 0, .int .i64 0, .int .i64 0, .int .u32 0])) (by simp [results, Tryz.results119, Act.put, asAddr, hld]) rfl ⟨rfl, HS.out.1⟩
set_option maxRecDepth 100000 in
set_option maxHeartbeats 4000000 in
theorem bad_lessened (hc : Hid (CallC cs s k0 k1 k2 k3 k4 o x)) (ho : 20 ≤ o) (w : World) : Calls Tryz.prog 141 #[(.agg cs.toArray)] w fun e w' => e = .returned (Value.agg #[.int .u32 2, .int .u32 0, .int .u32 0, .int .u32 0, .int .i64 0, .int .i64 0, .int .i64 0, .int .i64 0, .int .u32 0, .int .i64 0, .int .i64 0, .int .i64 0, .int .i64 0, .int .u32 0, .int .i64 0, .int .i64 0, .int .i64 0, .int .i64 0, .int .u32 0]) ∧ Below w.heap.size w w' := by
  have e0 : (o == 0) = false := (by rw [beq_eq_false_iff_ne]; omega); have e1 : (o == 1) = false := (by rw [beq_eq_false_iff_ne]; omega); have e2 : (o == 2) = false := (by rw [beq_eq_false_iff_ne]; omega); have e3 : (o == 3) = false := (by rw [beq_eq_false_iff_ne]; omega); have e4 : (o == 4) = false := (by rw [beq_eq_false_iff_ne]; omega); have e5 : (o == 5) = false := (by rw [beq_eq_false_iff_ne]; omega); have e6 : (o == 6) = false := (by rw [beq_eq_false_iff_ne]; omega); have e7 : (o == 7) = false := (by rw [beq_eq_false_iff_ne]; omega); have e8 : (o == 8) = false := (by rw [beq_eq_false_iff_ne]; omega); have e9 : (o == 9) = false := (by rw [beq_eq_false_iff_ne]; omega); have en : (o != 0) = true := (by rw [bne_iff_ne]; omega); go_enter Tryz.func141, Tryz.ntmps141; go_upto_region 1 with fail; generalize hA : World.alloc w _ = wK; obtain ⟨C, hC⟩ : ∃ C, C = w.heap.size := ⟨_, rfl⟩; have HK : Hid (Below w.heap.size w wK ∧ wK.rangeAt C 0 cs ∧ wK.heap.size = C + 1) := Lib.hid (by rw [← hA, hC]; exact ⟨(Below.refl _ _).alloc (Nat.le_refl _) _, cbox _ _ _, by simp⟩); have HCl : Hid (w.heap.size ≤ C) := Lib.hid (by rw [hC]; exact Nat.le_refl _); rw [← hC]; clear hA hC; generalize hA : World.alloc wK _ = wA; obtain ⟨R, hR⟩ : ∃ R, R = C + 1 := ⟨_, rfl⟩; have HA : Hid (Below w.heap.size w wA ∧ wA.rangeAt C 0 cs ∧ World.there wA R 0 19 ∧ C < R ∧ R < wA.heap.size) := Lib.hid (by rw [← hA, hR, ← HK.out.2.2]; exact ⟨HK.out.1.alloc HK.out.1.size _, range_below HK.out.2.1 ((Below.refl _ _).alloc (Nat.le_refl _) _) (by have := HK.out.2.2; omega), nthere_new _ _ 19 (by rfl) _, by have := HK.out.2.2; omega, by simp⟩); rw [← hR]; clear hA hR; have q6 := CallC.cell HA.out.2.1 6 _ hc.out.c6; have q2 := CallC.cell HA.out.2.1 2 _ hc.out.c2
  go_wp2_with (first | (go_at_call 124; (with_reducible refine (ofails_is 2 (by decide) (by decide) _).mono ?_); rintro e w1 ⟨rfl, hb⟩; have HB1 := Lib.hid hb; have HT1 : Hid (World.there w1 R 0 19) := Lib.hid (nthere_below HA.out.2.2.1 hb HA.out.2.2.2.2); clear hb) | (refine wpList_store_mid (by rfl) _ _ _ (by rfl) R 0 ([.int .u32 2, .int .u32 0, .int .u32 0, .int .u32 0, .int .i64 0, .int .i64 0, .int .i64 0, .int .i64 0, .int .u32 0, .int .i64 0, .int .i64 0, .int .i64 0, .int .i64 0, .int .u32 0, .int .i64 0, .int .i64 0, .int .i64 0, .int .i64 0, .int .u32 0] : List Value).toArray (by rfl) (by rfl) HT1.out infoNote (note_one _ _ _ _ _ _ _ _ _ _ _ _ _ _ _ _ _ _ _) ?_))
  have hRn : w.heap.size ≤ R := (by have := HA.out.2.2.2.1; have := HCl.out; omega); generalize hS : World.setCells w1 _ _ _ = wS; have HS : Hid (Below w.heap.size w wS ∧ wS.rangeAt R 0 [.int .u32 2, .int .u32 0, .int .u32 0, .int .u32 0, .int .i64 0, .int .i64 0, .int .i64 0, .int .i64 0, .int .u32 0, .int .i64 0, .int .i64 0, .int .i64 0, .int .i64 0, .int .u32 0, .int .i64 0, .int .i64 0, .int .i64 0, .int .i64 0, .int .u32 0]) := Lib.hid (by rw [← hS]; exact ⟨nbelow_cells (HA.out.1.trans (HB1.out.mono HA.out.1.size)) hRn _ _, World.rangeAt_setCells_same w1 R 0 [.int .u32 2, .int .u32 0, .int .u32 0, .int .u32 0, .int .i64 0, .int .i64 0, .int .i64 0, .int .i64 0, .int .u32 0, .int .i64 0, .int .i64 0, .int .i64 0, .int .i64 0, .int .u32 0, .int .i64 0, .int .i64 0, .int .i64 0, .int .i64 0, .int .u32 0] HT1.out⟩); have hld := nload rfl HS.out.2; refine bodyPost_ret (v := (Value.agg #[.int .u32 2, .int .u32 0, .int .u32 0, .int .u32 0, .int .i64 0, .int .i64 0, .int .i64 0, .int .i64 0, .int .u32 0, .int .i64 0, .int .i64 0, .int .i64 0, .int .i64 0, .int .u32 0, .int .i64 0, .int .i64 0, .int .i64 0, .int .i64 0, .int .u32 0])) (by simp [results, Tryz.results141, Act.put, asAddr, hld]) rfl ⟨rfl, HS.out.1⟩
set_option maxRecDepth 100000 in
set_option maxHeartbeats 4000000 in
theorem bad_node (hc : Hid (CallC cs s k0 k1 k2 k3 k4 o x)) (ho : 20 ≤ o) (w : World) : Calls Tryz.prog 113 #[(.agg cs.toArray)] w fun e w' => e = .returned (Value.agg #[.int .u32 2, .int .u32 0, .int .u32 0, .int .u32 0, .int .i64 0, .int .i64 0, .int .i64 0, .int .i64 0, .int .u32 0, .int .i64 0, .int .i64 0, .int .i64 0, .int .i64 0, .int .u32 0, .int .i64 0, .int .i64 0, .int .i64 0, .int .i64 0, .int .u32 0]) ∧ Below w.heap.size w w' := by
  have e0 : (o == 0) = false := (by rw [beq_eq_false_iff_ne]; omega); have e1 : (o == 1) = false := (by rw [beq_eq_false_iff_ne]; omega); have e2 : (o == 2) = false := (by rw [beq_eq_false_iff_ne]; omega); have e3 : (o == 3) = false := (by rw [beq_eq_false_iff_ne]; omega); have e4 : (o == 4) = false := (by rw [beq_eq_false_iff_ne]; omega); have e5 : (o == 5) = false := (by rw [beq_eq_false_iff_ne]; omega); have e6 : (o == 6) = false := (by rw [beq_eq_false_iff_ne]; omega); have e7 : (o == 7) = false := (by rw [beq_eq_false_iff_ne]; omega); have e8 : (o == 8) = false := (by rw [beq_eq_false_iff_ne]; omega); have e9 : (o == 9) = false := (by rw [beq_eq_false_iff_ne]; omega); have en : (o != 0) = true := (by rw [bne_iff_ne]; omega); go_enter Tryz.func113, Tryz.ntmps113; go_upto_region 1 with fail; generalize hA : World.alloc w _ = wK; obtain ⟨C, hC⟩ : ∃ C, C = w.heap.size := ⟨_, rfl⟩; have HK : Hid (Below w.heap.size w wK ∧ wK.rangeAt C 0 cs ∧ wK.heap.size = C + 1) := Lib.hid (by rw [← hA, hC]; exact ⟨(Below.refl _ _).alloc (Nat.le_refl _) _, cbox _ _ _, by simp⟩); have HCl : Hid (w.heap.size ≤ C) := Lib.hid (by rw [hC]; exact Nat.le_refl _); rw [← hC]; clear hA hC; generalize hA : World.alloc wK _ = wA; obtain ⟨R, hR⟩ : ∃ R, R = C + 1 := ⟨_, rfl⟩; have HA : Hid (Below w.heap.size w wA ∧ wA.rangeAt C 0 cs ∧ World.there wA R 0 19 ∧ C < R ∧ R < wA.heap.size) := Lib.hid (by rw [← hA, hR, ← HK.out.2.2]; exact ⟨HK.out.1.alloc HK.out.1.size _, range_below HK.out.2.1 ((Below.refl _ _).alloc (Nat.le_refl _) _) (by have := HK.out.2.2; omega), nthere_new _ _ 19 (by rfl) _, by have := HK.out.2.2; omega, by simp⟩); rw [← hR]; clear hA hR; have q6 := CallC.cell HA.out.2.1 6 _ hc.out.c6; have q2 := CallC.cell HA.out.2.1 2 _ hc.out.c2
  go_wp2_with (first
    | (refine wpList_load_mid (by rfl) _ _ (by rfl) C 0 (by rfl) cs _ HA.out.2.1 Tryz.underlying129 rfl (by rw [hc.out.len]; exact infoCall) ?_)
    | (go_at_call 141; (with_reducible refine (bad_lessened hc ho _).mono ?_); rintro e w1 ⟨rfl, hb⟩; have HB1 := Lib.hid hb; have HT1 : Hid (World.there w1 R 0 19) := Lib.hid (nthere_below HA.out.2.2.1 hb HA.out.2.2.2.2); clear hb)
    | (refine wpList_store_mid (by rfl) _ _ _ (by rfl) R 0 ([.int .u32 2, .int .u32 0, .int .u32 0, .int .u32 0, .int .i64 0, .int .i64 0, .int .i64 0, .int .i64 0, .int .u32 0, .int .i64 0, .int .i64 0, .int .i64 0, .int .i64 0, .int .u32 0, .int .i64 0, .int .i64 0, .int .i64 0, .int .i64 0, .int .u32 0] : List Value).toArray (by rfl) (by rfl) HT1.out infoNote (note_one _ _ _ _ _ _ _ _ _ _ _ _ _ _ _ _ _ _ _) ?_))
  have hRn : w.heap.size ≤ R := (by have := HA.out.2.2.2.1; have := HCl.out; omega); generalize hS : World.setCells w1 _ _ _ = wS; have HS : Hid (Below w.heap.size w wS ∧ wS.rangeAt R 0 [.int .u32 2, .int .u32 0, .int .u32 0, .int .u32 0, .int .i64 0, .int .i64 0, .int .i64 0, .int .i64 0, .int .u32 0, .int .i64 0, .int .i64 0, .int .i64 0, .int .i64 0, .int .u32 0, .int .i64 0, .int .i64 0, .int .i64 0, .int .i64 0, .int .u32 0]) := Lib.hid (by rw [← hS]; exact ⟨nbelow_cells (HA.out.1.trans (HB1.out.mono HA.out.1.size)) hRn _ _, World.rangeAt_setCells_same w1 R 0 [.int .u32 2, .int .u32 0, .int .u32 0, .int .u32 0, .int .i64 0, .int .i64 0, .int .i64 0, .int .i64 0, .int .u32 0, .int .i64 0, .int .i64 0, .int .i64 0, .int .i64 0, .int .u32 0, .int .i64 0, .int .i64 0, .int .i64 0, .int .i64 0, .int .u32 0] HT1.out⟩); have hld := nload rfl HS.out.2; refine bodyPost_ret (v := (Value.agg #[.int .u32 2, .int .u32 0, .int .u32 0, .int .u32 0, .int .i64 0, .int .i64 0, .int .i64 0, .int .i64 0, .int .u32 0, .int .i64 0, .int .i64 0, .int .i64 0, .int .i64 0, .int .u32 0, .int .i64 0, .int .i64 0, .int .i64 0, .int .i64 0, .int .u32 0])) (by simp [results, Tryz.results113, Act.put, asAddr, hld]) rfl ⟨rfl, HS.out.1⟩
set_option maxRecDepth 100000 in
set_option maxHeartbeats 4000000 in
theorem bad_page (hc : Hid (CallC cs s k0 k1 k2 k3 k4 o x)) (ho : 20 ≤ o) (w : World) : Calls Tryz.prog 114 #[(.agg cs.toArray)] w fun e w' => e = .returned (Value.agg #[.int .u32 2, .int .u32 0, .int .u32 0, .int .u32 0, .int .i64 0, .int .i64 0, .int .i64 0, .int .i64 0, .int .u32 0, .int .i64 0, .int .i64 0, .int .i64 0, .int .i64 0, .int .u32 0, .int .i64 0, .int .i64 0, .int .i64 0, .int .i64 0, .int .u32 0]) ∧ Below w.heap.size w w' := by
  have e0 : (o == 0) = false := (by rw [beq_eq_false_iff_ne]; omega); have e1 : (o == 1) = false := (by rw [beq_eq_false_iff_ne]; omega); have e2 : (o == 2) = false := (by rw [beq_eq_false_iff_ne]; omega); have e3 : (o == 3) = false := (by rw [beq_eq_false_iff_ne]; omega); have e4 : (o == 4) = false := (by rw [beq_eq_false_iff_ne]; omega); have e5 : (o == 5) = false := (by rw [beq_eq_false_iff_ne]; omega); have e6 : (o == 6) = false := (by rw [beq_eq_false_iff_ne]; omega); have e7 : (o == 7) = false := (by rw [beq_eq_false_iff_ne]; omega); have e8 : (o == 8) = false := (by rw [beq_eq_false_iff_ne]; omega); have e9 : (o == 9) = false := (by rw [beq_eq_false_iff_ne]; omega); have en : (o != 0) = true := (by rw [bne_iff_ne]; omega); go_enter Tryz.func114, Tryz.ntmps114; go_upto_region 1 with fail; generalize hA : World.alloc w _ = wK; obtain ⟨C, hC⟩ : ∃ C, C = w.heap.size := ⟨_, rfl⟩; have HK : Hid (Below w.heap.size w wK ∧ wK.rangeAt C 0 cs ∧ wK.heap.size = C + 1) := Lib.hid (by rw [← hA, hC]; exact ⟨(Below.refl _ _).alloc (Nat.le_refl _) _, cbox _ _ _, by simp⟩); have HCl : Hid (w.heap.size ≤ C) := Lib.hid (by rw [hC]; exact Nat.le_refl _); rw [← hC]; clear hA hC; generalize hA : World.alloc wK _ = wA; obtain ⟨R, hR⟩ : ∃ R, R = C + 1 := ⟨_, rfl⟩; have HA : Hid (Below w.heap.size w wA ∧ wA.rangeAt C 0 cs ∧ World.there wA R 0 19 ∧ C < R ∧ R < wA.heap.size) := Lib.hid (by rw [← hA, hR, ← HK.out.2.2]; exact ⟨HK.out.1.alloc HK.out.1.size _, range_below HK.out.2.1 ((Below.refl _ _).alloc (Nat.le_refl _) _) (by have := HK.out.2.2; omega), nthere_new _ _ 19 (by rfl) _, by have := HK.out.2.2; omega, by simp⟩); rw [← hR]; clear hA hR; have q6 := CallC.cell HA.out.2.1 6 _ hc.out.c6; have q2 := CallC.cell HA.out.2.1 2 _ hc.out.c2
  go_wp2_with (first
    | (refine wpList_load_mid (by rfl) _ _ (by rfl) C 0 (by rfl) cs _ HA.out.2.1 Tryz.underlying129 rfl (by rw [hc.out.len]; exact infoCall) ?_)
    | (go_at_call 141; (with_reducible refine (bad_lessened hc ho _).mono ?_); rintro e w1 ⟨rfl, hb⟩; have HB1 := Lib.hid hb; have HT1 : Hid (World.there w1 R 0 19) := Lib.hid (nthere_below HA.out.2.2.1 hb HA.out.2.2.2.2); clear hb)
    | (refine wpList_store_mid (by rfl) _ _ _ (by rfl) R 0 ([.int .u32 2, .int .u32 0, .int .u32 0, .int .u32 0, .int .i64 0, .int .i64 0, .int .i64 0, .int .i64 0, .int .u32 0, .int .i64 0, .int .i64 0, .int .i64 0, .int .i64 0, .int .u32 0, .int .i64 0, .int .i64 0, .int .i64 0, .int .i64 0, .int .u32 0] : List Value).toArray (by rfl) (by rfl) HT1.out infoNote (note_one _ _ _ _ _ _ _ _ _ _ _ _ _ _ _ _ _ _ _) ?_))
  have hRn : w.heap.size ≤ R := (by have := HA.out.2.2.2.1; have := HCl.out; omega); generalize hS : World.setCells w1 _ _ _ = wS; have HS : Hid (Below w.heap.size w wS ∧ wS.rangeAt R 0 [.int .u32 2, .int .u32 0, .int .u32 0, .int .u32 0, .int .i64 0, .int .i64 0, .int .i64 0, .int .i64 0, .int .u32 0, .int .i64 0, .int .i64 0, .int .i64 0, .int .i64 0, .int .u32 0, .int .i64 0, .int .i64 0, .int .i64 0, .int .i64 0, .int .u32 0]) := Lib.hid (by rw [← hS]; exact ⟨nbelow_cells (HA.out.1.trans (HB1.out.mono HA.out.1.size)) hRn _ _, World.rangeAt_setCells_same w1 R 0 [.int .u32 2, .int .u32 0, .int .u32 0, .int .u32 0, .int .i64 0, .int .i64 0, .int .i64 0, .int .i64 0, .int .u32 0, .int .i64 0, .int .i64 0, .int .i64 0, .int .i64 0, .int .u32 0, .int .i64 0, .int .i64 0, .int .i64 0, .int .i64 0, .int .u32 0] HT1.out⟩); have hld := nload rfl HS.out.2; refine bodyPost_ret (v := (Value.agg #[.int .u32 2, .int .u32 0, .int .u32 0, .int .u32 0, .int .i64 0, .int .i64 0, .int .i64 0, .int .i64 0, .int .u32 0, .int .i64 0, .int .i64 0, .int .i64 0, .int .i64 0, .int .u32 0, .int .i64 0, .int .i64 0, .int .i64 0, .int .i64 0, .int .u32 0])) (by simp [results, Tryz.results114, Act.put, asAddr, hld]) rfl ⟨rfl, HS.out.1⟩
set_option maxRecDepth 100000 in
set_option maxHeartbeats 4000000 in
theorem bad_bank (hc : Hid (CallC cs s k0 k1 k2 k3 k4 o x)) (ho : 20 ≤ o) (w : World) : Calls Tryz.prog 117 #[(.agg cs.toArray)] w fun e w' => e = .returned (Value.agg #[.int .u32 2, .int .u32 0, .int .u32 0, .int .u32 0, .int .i64 0, .int .i64 0, .int .i64 0, .int .i64 0, .int .u32 0, .int .i64 0, .int .i64 0, .int .i64 0, .int .i64 0, .int .u32 0, .int .i64 0, .int .i64 0, .int .i64 0, .int .i64 0, .int .u32 0]) ∧ Below w.heap.size w w' := by
  have e0 : (o == 0) = false := (by rw [beq_eq_false_iff_ne]; omega); have e1 : (o == 1) = false := (by rw [beq_eq_false_iff_ne]; omega); have e2 : (o == 2) = false := (by rw [beq_eq_false_iff_ne]; omega); have e3 : (o == 3) = false := (by rw [beq_eq_false_iff_ne]; omega); have e4 : (o == 4) = false := (by rw [beq_eq_false_iff_ne]; omega); have e5 : (o == 5) = false := (by rw [beq_eq_false_iff_ne]; omega); have e6 : (o == 6) = false := (by rw [beq_eq_false_iff_ne]; omega); have e7 : (o == 7) = false := (by rw [beq_eq_false_iff_ne]; omega); have e8 : (o == 8) = false := (by rw [beq_eq_false_iff_ne]; omega); have e9 : (o == 9) = false := (by rw [beq_eq_false_iff_ne]; omega); have en : (o != 0) = true := (by rw [bne_iff_ne]; omega); go_enter Tryz.func117, Tryz.ntmps117; go_upto_region 1 with fail; generalize hA : World.alloc w _ = wK; obtain ⟨C, hC⟩ : ∃ C, C = w.heap.size := ⟨_, rfl⟩; have HK : Hid (Below w.heap.size w wK ∧ wK.rangeAt C 0 cs ∧ wK.heap.size = C + 1) := Lib.hid (by rw [← hA, hC]; exact ⟨(Below.refl _ _).alloc (Nat.le_refl _) _, cbox _ _ _, by simp⟩); have HCl : Hid (w.heap.size ≤ C) := Lib.hid (by rw [hC]; exact Nat.le_refl _); rw [← hC]; clear hA hC; generalize hA : World.alloc wK _ = wA; obtain ⟨R, hR⟩ : ∃ R, R = C + 1 := ⟨_, rfl⟩; have HA : Hid (Below w.heap.size w wA ∧ wA.rangeAt C 0 cs ∧ World.there wA R 0 19 ∧ C < R ∧ R < wA.heap.size) := Lib.hid (by rw [← hA, hR, ← HK.out.2.2]; exact ⟨HK.out.1.alloc HK.out.1.size _, range_below HK.out.2.1 ((Below.refl _ _).alloc (Nat.le_refl _) _) (by have := HK.out.2.2; omega), nthere_new _ _ 19 (by rfl) _, by have := HK.out.2.2; omega, by simp⟩); rw [← hR]; clear hA hR; have q6 := CallC.cell HA.out.2.1 6 _ hc.out.c6; have q2 := CallC.cell HA.out.2.1 2 _ hc.out.c2
  go_upto_region 2 with fail
  generalize hA : World.alloc wA _ = wq
  have HQ : Hid (Below wA.heap.size wA wq ∧ wq.cell? ⟨C, 6, none⟩ = some (.int .u32 o)) := Lib.hid (by
    have hb : Below wA.heap.size wA wq := by rw [← hA]; exact (Below.refl _ _).alloc (Nat.le_refl _) _
    exact ⟨hb, (hb.cell (p := ⟨C, 6, none⟩) (Nat.lt_trans HA.out.2.2.2.1 HA.out.2.2.2.2)).trans q6⟩)
  clear hA q6 q2
  have q6 := HQ.out.2
  go_wp2_with (first
    | (go_at_call 124; (with_reducible refine (ofails_is 2 (by decide) (by decide) _).mono ?_); rintro e w1 ⟨rfl, hb⟩; have HB1 : Hid (Below wA.heap.size wA w1) := Lib.hid (HQ.out.1.trans (hb.mono HQ.out.1.size)); have HT1 : Hid (World.there w1 R 0 19) := Lib.hid (nthere_below HA.out.2.2.1 HB1.out HA.out.2.2.2.2); clear hb)
    | (refine wpList_store_mid (by rfl) _ _ _ (by rfl) R 0 ([.int .u32 2, .int .u32 0, .int .u32 0, .int .u32 0, .int .i64 0, .int .i64 0, .int .i64 0, .int .i64 0, .int .u32 0, .int .i64 0, .int .i64 0, .int .i64 0, .int .i64 0, .int .u32 0, .int .i64 0, .int .i64 0, .int .i64 0, .int .i64 0, .int .u32 0] : List Value).toArray (by rfl) (by rfl) HT1.out infoNote (note_one _ _ _ _ _ _ _ _ _ _ _ _ _ _ _ _ _ _ _) ?_))
  have hRn : w.heap.size ≤ R := (by have := HA.out.2.2.2.1; have := HCl.out; omega); generalize hS : World.setCells w1 _ _ _ = wS; have HS : Hid (Below w.heap.size w wS ∧ wS.rangeAt R 0 [.int .u32 2, .int .u32 0, .int .u32 0, .int .u32 0, .int .i64 0, .int .i64 0, .int .i64 0, .int .i64 0, .int .u32 0, .int .i64 0, .int .i64 0, .int .i64 0, .int .i64 0, .int .u32 0, .int .i64 0, .int .i64 0, .int .i64 0, .int .i64 0, .int .u32 0]) := Lib.hid (by rw [← hS]; exact ⟨nbelow_cells (HA.out.1.trans (HB1.out.mono HA.out.1.size)) hRn _ _, World.rangeAt_setCells_same w1 R 0 [.int .u32 2, .int .u32 0, .int .u32 0, .int .u32 0, .int .i64 0, .int .i64 0, .int .i64 0, .int .i64 0, .int .u32 0, .int .i64 0, .int .i64 0, .int .i64 0, .int .i64 0, .int .u32 0, .int .i64 0, .int .i64 0, .int .i64 0, .int .i64 0, .int .u32 0] HT1.out⟩); have hld := nload rfl HS.out.2; refine bodyPost_ret (v := (Value.agg #[.int .u32 2, .int .u32 0, .int .u32 0, .int .u32 0, .int .i64 0, .int .i64 0, .int .i64 0, .int .i64 0, .int .u32 0, .int .i64 0, .int .i64 0, .int .i64 0, .int .i64 0, .int .u32 0, .int .i64 0, .int .i64 0, .int .i64 0, .int .i64 0, .int .u32 0])) (by simp [results, Tryz.results117, Act.put, asAddr, hld]) rfl ⟨rfl, HS.out.1⟩
set_option maxRecDepth 100000 in
set_option maxHeartbeats 8000000 in
theorem bad_domain (hc : Hid (CallC cs s k0 k1 k2 k3 k4 o x)) (ho : 20 ≤ o) (d : Nat) (F : Nat → Value) (g : Bool) (hF : Hid (∀ j, j < 107 → (F j).oneCell' = true)) (w : World) (hs : w.cell? ⟨s, 1, none⟩ = some (.pointer (some ⟨d, 0, none⟩)))
    (hG : ∀ W, Below w.heap.size w W → Calls Tryz.prog 98 #[.pointer (some ⟨d, 0, none⟩), .int .i64 k1] W fun e w' => e = .returned (.tuple #[.agg (rowL F).toArray, .bool g]) ∧ Below W.heap.size W w') :
    Calls Tryz.prog 115 #[(.agg cs.toArray)] w fun e w' => e = .returned (Value.agg #[.int .u32 2, .int .u32 0, .int .u32 0, .int .u32 0, .int .i64 0, .int .i64 0, .int .i64 0, .int .i64 0, .int .u32 0, .int .i64 0, .int .i64 0, .int .i64 0, .int .i64 0, .int .u32 0, .int .i64 0, .int .i64 0, .int .i64 0, .int .i64 0, .int .u32 0]) ∧ Below w.heap.size w w' := by
  have HG := Lib.hid hG
  have HSl : Hid (s < w.heap.size ∧ w.cell? ⟨s, 1, none⟩ = some (.pointer (some ⟨d, 0, none⟩))) := Lib.hid ⟨cell_lt hs, hs⟩
  clear hG hs
  have e0 : (o == 0) = false := (by rw [beq_eq_false_iff_ne]; omega); have e1 : (o == 1) = false := (by rw [beq_eq_false_iff_ne]; omega); have e2 : (o == 2) = false := (by rw [beq_eq_false_iff_ne]; omega); have e3 : (o == 3) = false := (by rw [beq_eq_false_iff_ne]; omega); have e4 : (o == 4) = false := (by rw [beq_eq_false_iff_ne]; omega); have e5 : (o == 5) = false := (by rw [beq_eq_false_iff_ne]; omega); have e6 : (o == 6) = false := (by rw [beq_eq_false_iff_ne]; omega); have e7 : (o == 7) = false := (by rw [beq_eq_false_iff_ne]; omega); have e8 : (o == 8) = false := (by rw [beq_eq_false_iff_ne]; omega); have e9 : (o == 9) = false := (by rw [beq_eq_false_iff_ne]; omega); have en : (o != 0) = true := (by rw [bne_iff_ne]; omega); go_enter Tryz.func115, Tryz.ntmps115; go_upto_region 1 with fail; generalize hA : World.alloc w _ = wK; obtain ⟨C, hC⟩ : ∃ C, C = w.heap.size := ⟨_, rfl⟩; have HK : Hid (Below w.heap.size w wK ∧ wK.rangeAt C 0 cs ∧ wK.heap.size = C + 1) := Lib.hid (by rw [← hA, hC]; exact ⟨(Below.refl _ _).alloc (Nat.le_refl _) _, cbox _ _ _, by simp⟩); have HCl : Hid (w.heap.size ≤ C) := Lib.hid (by rw [hC]; exact Nat.le_refl _); rw [← hC]; clear hA hC; generalize hA : World.alloc wK _ = wA; obtain ⟨R, hR⟩ : ∃ R, R = C + 1 := ⟨_, rfl⟩; have HA : Hid (Below w.heap.size w wA ∧ wA.rangeAt C 0 cs ∧ World.there wA R 0 19 ∧ C < R ∧ R < wA.heap.size) := Lib.hid (by rw [← hA, hR, ← HK.out.2.2]; exact ⟨HK.out.1.alloc HK.out.1.size _, range_below HK.out.2.1 ((Below.refl _ _).alloc (Nat.le_refl _) _) (by have := HK.out.2.2; omega), nthere_new _ _ 19 (by rfl) _, by have := HK.out.2.2; omega, by simp⟩); rw [← hR]; clear hA hR; have q6 := CallC.cell HA.out.2.1 6 _ hc.out.c6; have q2 := CallC.cell HA.out.2.1 2 _ hc.out.c2
  have HC0 := CallC.cell HA.out.2.1 0 _ hc.out.c0
  have HS1 : Hid (∀ W, Below wA.heap.size wA W → (World.cell? W ⟨C, 0, none⟩ = some (.pointer (some ⟨s, 0, none⟩)) ∧ World.cell? W ⟨C, 2, none⟩ = some (.int .i64 k1) ∧ World.cell? W ⟨C, 6, none⟩ = some (.int .u32 o) ∧ World.cell? W ⟨s, 1, none⟩ = some (.pointer (some ⟨d, 0, none⟩)))) := Lib.hid (fun W hW => by
    have hr := range_below HA.out.2.1 hW (Nat.lt_trans HA.out.2.2.2.1 HA.out.2.2.2.2)
    exact ⟨CallC.cell hr 0 _ hc.out.c0, CallC.cell hr 2 _ hc.out.c2, CallC.cell hr 6 _ hc.out.c6, ((HA.out.1.trans (hW.mono HA.out.1.size)).cell (p := ⟨s, 1, none⟩) HSl.out.1).trans HSl.out.2⟩)
  clear q6 q2 HC0
  go_cut [] (fun wx => Below wA.heap.size wA wx)
  case first =>
    obtain ⟨wD, hwD⟩ : ∃ wD, wD = wA.drew := ⟨_, rfl⟩
    have HBd : Hid (Below wA.heap.size wA wD) := Lib.hid (by rw [hwD]; exact (Below.refl _ _).drew)
    refine wp_region_noPanic ?_
    refine wp_region_held_drew (S := fun W => (World.cell? W ⟨C, 0, none⟩ = some (.pointer (some ⟨s, 0, none⟩)) ∧ World.cell? W ⟨C, 2, none⟩ = some (.int .i64 k1) ∧ World.cell? W ⟨C, 6, none⟩ = some (.int .u32 o) ∧ World.cell? W ⟨s, 1, none⟩ = some (.pointer (some ⟨d, 0, none⟩)))) (by kernel_rfl) (by rw [← hwD]; exact HS1.out _ HBd.out) (fun hHeld => ?_)
    rw [← hwD] at hHeld ⊢
    clear hwD
    refine wpAnyH_take (i := 0) (v := ?_) (by rfl) (by kernel_rfl) (by kernel_rfl) (by kernel_rfl) (fun _ _ _ h => h) (Or.inl ⟨by kernel_rfl, ?_⟩) (by assumption) ?_; rotate_left 1; (focus (intro w hSw; (try dsimp only at hSw); simp only [List.getElem_toArray, List.getElem_cons_succ, List.getElem_cons_zero]; all_goals go_simp; all_goals (try with_reducible rfl))); (try simp only [Act.put, List.getElem_toArray, List.getElem_cons_succ, List.getElem_cons_zero, List.setIfInBounds_toArray, List.set_cons_zero, List.set_cons_succ])
    refine wpAnyH_take (i := 1) (v := ?_) (by rfl) (by kernel_rfl) (by kernel_rfl) (by kernel_rfl) (fun _ _ _ h => h) (Or.inl ⟨by kernel_rfl, ?_⟩) (by assumption) ?_; rotate_left 1; (focus (intro w hSw; (try dsimp only at hSw); simp only [List.getElem_toArray, List.getElem_cons_succ, List.getElem_cons_zero]; all_goals go_simp; all_goals (try with_reducible rfl))); (try simp only [Act.put, List.getElem_toArray, List.getElem_cons_succ, List.getElem_cons_zero, List.setIfInBounds_toArray, List.set_cons_zero, List.set_cons_succ])
    refine wpAnyH_take (i := 2) (v := ?_) (by rfl) (by kernel_rfl) (by kernel_rfl) (by kernel_rfl) (fun _ _ _ h => h) (Or.inl ⟨by kernel_rfl, ?_⟩) (by assumption) ?_; rotate_left 1; (focus (intro w hSw; (try dsimp only at hSw); simp only [List.getElem_toArray, List.getElem_cons_succ, List.getElem_cons_zero]; all_goals go_simp; all_goals (try with_reducible rfl))); (try simp only [Act.put, List.getElem_toArray, List.getElem_cons_succ, List.getElem_cons_zero, List.setIfInBounds_toArray, List.set_cons_zero, List.set_cons_succ])
    refine wpAnyH_take (i := 3) (v := ?_) (by rfl) (by kernel_rfl) (by kernel_rfl) (by kernel_rfl) (fun _ _ _ h => h) (Or.inl ⟨by kernel_rfl, ?_⟩) (by assumption) ?_; rotate_left 1; (focus (intro w hSw; (try dsimp only at hSw); simp only [List.getElem_toArray, List.getElem_cons_succ, List.getElem_cons_zero]; all_goals go_simp; all_goals (try with_reducible rfl))); (try simp only [Act.put, List.getElem_toArray, List.getElem_cons_succ, List.getElem_cons_zero, List.setIfInBounds_toArray, List.set_cons_zero, List.set_cons_succ])
    refine wpAnyH_take (i := 4) (v := ?_) (by rfl) (by kernel_rfl) (by kernel_rfl) (by kernel_rfl) (fun _ _ _ h => h) (Or.inl ⟨by kernel_rfl, ?_⟩) (by assumption) ?_; rotate_left 1; (focus (intro w hSw; (try dsimp only at hSw); simp only [List.getElem_toArray, List.getElem_cons_succ, List.getElem_cons_zero]; all_goals go_simp; all_goals (try with_reducible rfl))); (try simp only [Act.put, List.getElem_toArray, List.getElem_cons_succ, List.getElem_cons_zero, List.setIfInBounds_toArray, List.set_cons_zero, List.set_cons_succ])
    refine wpAnyH_take (i := 5) (v := ?_) (by rfl) (by kernel_rfl) (by kernel_rfl) (by kernel_rfl) (fun _ _ _ h => h) (Or.inl ⟨by kernel_rfl, ?_⟩) (by assumption) ?_; rotate_left 1; (focus (intro w hSw; (try dsimp only at hSw); simp only [List.getElem_toArray, List.getElem_cons_succ, List.getElem_cons_zero]; all_goals go_simp; all_goals (try with_reducible rfl))); (try simp only [Act.put, List.getElem_toArray, List.getElem_cons_succ, List.getElem_cons_zero, List.setIfInBounds_toArray, List.set_cons_zero, List.set_cons_succ])
    refine wpAnyH_take (i := 6) (v := ?_) (by rfl) (by kernel_rfl) (by kernel_rfl) (by kernel_rfl) (fun _ _ _ h => h) (Or.inl ⟨by kernel_rfl, ?_⟩) (by assumption) ?_; rotate_left 1; (focus (intro w hSw; (try dsimp only at hSw); simp only [List.getElem_toArray, List.getElem_cons_succ, List.getElem_cons_zero]; all_goals go_simp; all_goals (try with_reducible rfl))); (try simp only [Act.put, List.getElem_toArray, List.getElem_cons_succ, List.getElem_cons_zero, List.setIfInBounds_toArray, List.set_cons_zero, List.set_cons_succ])
    refine wpAnyH_take (i := 7) (v := ?_) (by rfl) (by kernel_rfl) (by kernel_rfl) (by kernel_rfl) (fun _ _ _ h => h) (Or.inl ⟨by kernel_rfl, ?_⟩) (by assumption) ?_; rotate_left 1; (focus (intro w hSw; (try dsimp only at hSw); simp only [List.getElem_toArray, List.getElem_cons_succ, List.getElem_cons_zero]; all_goals go_simp; all_goals (try with_reducible rfl))); (try simp only [Act.put, List.getElem_toArray, List.getElem_cons_succ, List.getElem_cons_zero, List.setIfInBounds_toArray, List.set_cons_zero, List.set_cons_succ])
    refine wpAnyH_ready (rs := [8, 12]) (by kernel_rfl) (by simp) ?_
    refine AllReadyH.cons (by rfl) (fun K hK => ?_) (AllReadyH.cons (by rfl) (fun K hK => ?_) AllReadyH.nil)
    · rw [if_pos (by kernel_rfl)]; simp only [List.getElem_toArray, List.getElem_cons_succ, List.getElem_cons_zero]
      go_wp2_with (first | (go_at_call 98; (with_reducible refine (HG.out _ (HA.out.1.trans (HBd.out.mono HA.out.1.size))).mono ?_); rintro e w2 ⟨rfl, hb⟩; have HB2 := Lib.hid (HBd.out.trans (hb.mono HBd.out.size)); clear hb))
      refine hK.out _ _ (HS1.out _ HB2.out) (fun hHeld => ?_)
      clear hK K
      (try simp only [Act.put, List.getElem_toArray, List.getElem_cons_succ, List.getElem_cons_zero, List.setIfInBounds_toArray, List.set_cons_zero, List.set_cons_succ])
      refine wpAnyH_take (i := 9) (v := ?_) (by rfl) (by kernel_rfl) (by kernel_rfl) (by kernel_rfl) (fun _ _ _ h => h) (Or.inl ⟨by kernel_rfl, ?_⟩) (by assumption) ?_; rotate_left 1; (focus (intro w hSw; (try dsimp only at hSw); simp only [List.getElem_toArray, List.getElem_cons_succ, List.getElem_cons_zero]; all_goals go_simp; all_goals (try with_reducible rfl))); (try simp only [Act.put, List.getElem_toArray, List.getElem_cons_succ, List.getElem_cons_zero, List.setIfInBounds_toArray, List.set_cons_zero, List.set_cons_succ])
      refine wpAnyH_take (i := 10) (v := ?_) (by rfl) (by kernel_rfl) (by kernel_rfl) (by kernel_rfl) (fun _ _ _ h => h) (Or.inl ⟨by kernel_rfl, ?_⟩) (by assumption) ?_; rotate_left 1; (focus (intro w hSw; (try dsimp only at hSw); simp only [List.getElem_toArray, List.getElem_cons_succ, List.getElem_cons_zero]; all_goals go_simp; all_goals (try with_reducible rfl))); (try simp only [Act.put, List.getElem_toArray, List.getElem_cons_succ, List.getElem_cons_zero, List.setIfInBounds_toArray, List.set_cons_zero, List.set_cons_succ])
      refine wpAnyH_take (i := 11) (v := ?_) (by rfl) (by kernel_rfl) (by kernel_rfl) (by kernel_rfl) (fun _ _ _ h => h) (Or.inl ⟨by kernel_rfl, ?_⟩) (by assumption) ?_; rotate_left 1; (focus (intro w hSw; (try dsimp only at hSw); simp only [List.getElem_toArray, List.getElem_cons_succ, List.getElem_cons_zero]; all_goals go_simp; all_goals (try with_reducible rfl))); (try simp only [Act.put, List.getElem_toArray, List.getElem_cons_succ, List.getElem_cons_zero, List.setIfInBounds_toArray, List.set_cons_zero, List.set_cons_succ])
      refine wpAnyH_ready (rs := [12]) (by kernel_rfl) (by simp) ?_; refine AllReadyH.cons (by rfl) (fun K hK => ?_) AllReadyH.nil; rw [if_pos (by kernel_rfl)]; simp only [List.getElem_toArray, List.getElem_cons_succ, List.getElem_cons_zero]
      go_wp2_with fail
      generalize hE : World.alloc w2 _ = wE; obtain ⟨J, hJ⟩ : ∃ J, J = w2.heap.size := ⟨_, rfl⟩; have HE : Hid (Below wA.heap.size wA wE ∧ World.there wE J 0 107 ∧ wA.heap.size ≤ J ∧ J < wE.heap.size) := Lib.hid (by rw [← hE, hJ]; exact ⟨(HB2.out).alloc (HB2.out).size _, nthere_new _ _ 107 zsize _, (HB2.out).size, by simp⟩); rw [← hJ]; clear hE hJ; refine hK.out _ _ (HS1.out _ HE.out.1) (fun hHeld => ?_)
      clear hK K
      (try simp only [Act.put, List.getElem_toArray, List.getElem_cons_succ, List.getElem_cons_zero, List.setIfInBounds_toArray, List.set_cons_zero, List.set_cons_succ])
      refine wpAnyH_ready (rs := [13]) (by kernel_rfl) (by simp) ?_; refine AllReadyH.cons (by rfl) (fun K hK => ?_) AllReadyH.nil; rw [if_pos (by kernel_rfl)]; simp only [List.getElem_toArray, List.getElem_cons_succ, List.getElem_cons_zero]; refine wp_store_mid 171 (Operand.tmp 3) (Operand.tmp 15) (by rfl) J 0 (rowL F).toArray (by rfl) (by rfl) (by rw [rowL_size]; exact HE.out.2.1) (by rw [rowL_size]; exact infoDomS) (rowL_one F hF.out) ?_; generalize hW : World.setCells wE _ _ _ = wF; have HF9 : Hid (Below wA.heap.size wA wF) := Lib.hid (by rw [← hW]; exact nbelow_cells HE.out.1 (HE.out.2.2).1 _ _); clear hW; refine hK.out _ _ (HS1.out _ HF9.out) (fun hHeld => ?_); clear hK K; (try simp only [Act.put, List.getElem_toArray, List.getElem_cons_succ, List.getElem_cons_zero, List.setIfInBounds_toArray, List.set_cons_zero, List.set_cons_succ]); refine wpAnyH_take (i := 14) (v := ?_) (by rfl) (by kernel_rfl) (by kernel_rfl) (by kernel_rfl) (fun _ _ _ h => h) (Or.inl ⟨by kernel_rfl, ?_⟩) (by assumption) ?_; rotate_left 1; (focus (intro w hSw; (try dsimp only at hSw); simp only [List.getElem_toArray, List.getElem_cons_succ, List.getElem_cons_zero]; all_goals go_simp; all_goals (try with_reducible rfl))); (try simp only [Act.put, List.getElem_toArray, List.getElem_cons_succ, List.getElem_cons_zero, List.setIfInBounds_toArray, List.set_cons_zero, List.set_cons_succ]); refine wpAnyH_done (by kernel_rfl) ?_ _; refine NoPanic.normal ?_; go_wp2_with fail; go_meet; exact HF9.out
    · rw [if_pos (by kernel_rfl)]; simp only [List.getElem_toArray, List.getElem_cons_succ, List.getElem_cons_zero]
      go_wp2_with fail
      generalize hE : World.alloc wD _ = wE; obtain ⟨J, hJ⟩ : ∃ J, J = wD.heap.size := ⟨_, rfl⟩; have HE : Hid (Below wA.heap.size wA wE ∧ World.there wE J 0 107 ∧ wA.heap.size ≤ J ∧ J < wE.heap.size) := Lib.hid (by rw [← hE, hJ]; exact ⟨(HBd.out).alloc (HBd.out).size _, nthere_new _ _ 107 zsize _, (HBd.out).size, by simp⟩); rw [← hJ]; clear hE hJ; refine hK.out _ _ (HS1.out _ HE.out.1) (fun hHeld => ?_)
      clear hK K
      (try simp only [Act.put, List.getElem_toArray, List.getElem_cons_succ, List.getElem_cons_zero, List.setIfInBounds_toArray, List.set_cons_zero, List.set_cons_succ])
      refine wpAnyH_ready (rs := [8]) (by kernel_rfl) (by simp) ?_; refine AllReadyH.cons (by rfl) (fun K hK => ?_) AllReadyH.nil; rw [if_pos (by kernel_rfl)]; simp only [List.getElem_toArray, List.getElem_cons_succ, List.getElem_cons_zero]
      go_wp2_with (first | (go_at_call 98; (with_reducible refine (HG.out _ (HA.out.1.trans (HE.out.1.mono HA.out.1.size))).mono ?_); rintro e w2 ⟨rfl, hb⟩; have HB2 : Hid (Below wA.heap.size wA w2 ∧ World.there w2 J 0 107) := Lib.hid ⟨HE.out.1.trans (hb.mono HE.out.1.size), nthere_below HE.out.2.1 hb HE.out.2.2.2⟩; clear hb))
      refine hK.out _ _ (HS1.out _ HB2.out.1) (fun hHeld => ?_)
      clear hK K
      (try simp only [Act.put, List.getElem_toArray, List.getElem_cons_succ, List.getElem_cons_zero, List.setIfInBounds_toArray, List.set_cons_zero, List.set_cons_succ])
      refine wpAnyH_take (i := 9) (v := ?_) (by rfl) (by kernel_rfl) (by kernel_rfl) (by kernel_rfl) (fun _ _ _ h => h) (Or.inl ⟨by kernel_rfl, ?_⟩) (by assumption) ?_; rotate_left 1; (focus (intro w hSw; (try dsimp only at hSw); simp only [List.getElem_toArray, List.getElem_cons_succ, List.getElem_cons_zero]; all_goals go_simp; all_goals (try with_reducible rfl))); (try simp only [Act.put, List.getElem_toArray, List.getElem_cons_succ, List.getElem_cons_zero, List.setIfInBounds_toArray, List.set_cons_zero, List.set_cons_succ])
      refine wpAnyH_take (i := 10) (v := ?_) (by rfl) (by kernel_rfl) (by kernel_rfl) (by kernel_rfl) (fun _ _ _ h => h) (Or.inl ⟨by kernel_rfl, ?_⟩) (by assumption) ?_; rotate_left 1; (focus (intro w hSw; (try dsimp only at hSw); simp only [List.getElem_toArray, List.getElem_cons_succ, List.getElem_cons_zero]; all_goals go_simp; all_goals (try with_reducible rfl))); (try simp only [Act.put, List.getElem_toArray, List.getElem_cons_succ, List.getElem_cons_zero, List.setIfInBounds_toArray, List.set_cons_zero, List.set_cons_succ])
      refine wpAnyH_take (i := 11) (v := ?_) (by rfl) (by kernel_rfl) (by kernel_rfl) (by kernel_rfl) (fun _ _ _ h => h) (Or.inl ⟨by kernel_rfl, ?_⟩) (by assumption) ?_; rotate_left 1; (focus (intro w hSw; (try dsimp only at hSw); simp only [List.getElem_toArray, List.getElem_cons_succ, List.getElem_cons_zero]; all_goals go_simp; all_goals (try with_reducible rfl))); (try simp only [Act.put, List.getElem_toArray, List.getElem_cons_succ, List.getElem_cons_zero, List.setIfInBounds_toArray, List.set_cons_zero, List.set_cons_succ])
      refine wpAnyH_ready (rs := [13]) (by kernel_rfl) (by simp) ?_; refine AllReadyH.cons (by rfl) (fun K hK => ?_) AllReadyH.nil; rw [if_pos (by kernel_rfl)]; simp only [List.getElem_toArray, List.getElem_cons_succ, List.getElem_cons_zero]; refine wp_store_mid 171 (Operand.tmp 3) (Operand.tmp 15) (by rfl) J 0 (rowL F).toArray (by rfl) (by rfl) (by rw [rowL_size]; exact HB2.out.2) (by rw [rowL_size]; exact infoDomS) (rowL_one F hF.out) ?_; generalize hW : World.setCells w2 _ _ _ = wF; have HF9 : Hid (Below wA.heap.size wA wF) := Lib.hid (by rw [← hW]; exact nbelow_cells HB2.out.1 (HE.out.2.2).1 _ _); clear hW; refine hK.out _ _ (HS1.out _ HF9.out) (fun hHeld => ?_); clear hK K; (try simp only [Act.put, List.getElem_toArray, List.getElem_cons_succ, List.getElem_cons_zero, List.setIfInBounds_toArray, List.set_cons_zero, List.set_cons_succ]); refine wpAnyH_take (i := 14) (v := ?_) (by rfl) (by kernel_rfl) (by kernel_rfl) (by kernel_rfl) (fun _ _ _ h => h) (Or.inl ⟨by kernel_rfl, ?_⟩) (by assumption) ?_; rotate_left 1; (focus (intro w hSw; (try dsimp only at hSw); simp only [List.getElem_toArray, List.getElem_cons_succ, List.getElem_cons_zero]; all_goals go_simp; all_goals (try with_reducible rfl))); (try simp only [Act.put, List.getElem_toArray, List.getElem_cons_succ, List.getElem_cons_zero, List.setIfInBounds_toArray, List.set_cons_zero, List.set_cons_succ]); refine wpAnyH_done (by kernel_rfl) ?_ _; refine NoPanic.normal ?_; go_wp2_with fail; go_meet; exact HF9.out
  case rest =>
    have HX := Lib.hid hcut
    have hcell := (HS1.out _ HX.out).2.2.1
    go_wp2_with (first
      | (go_at_call 124; (with_reducible refine (ofails_is 2 (by decide) (by decide) _).mono ?_); rintro e w1 ⟨rfl, hb⟩; have HB1 : Hid (Below wA.heap.size wA w1) := Lib.hid (HX.out.trans (hb.mono HX.out.size)); have HT1 : Hid (World.there w1 R 0 19) := Lib.hid (nthere_below HA.out.2.2.1 HB1.out HA.out.2.2.2.2); clear hb)
      | (refine wpList_store_mid (by rfl) _ _ _ (by rfl) R 0 ([.int .u32 2, .int .u32 0, .int .u32 0, .int .u32 0, .int .i64 0, .int .i64 0, .int .i64 0, .int .i64 0, .int .u32 0, .int .i64 0, .int .i64 0, .int .i64 0, .int .i64 0, .int .u32 0, .int .i64 0, .int .i64 0, .int .i64 0, .int .i64 0, .int .u32 0] : List Value).toArray (by rfl) (by rfl) HT1.out infoNote (note_one _ _ _ _ _ _ _ _ _ _ _ _ _ _ _ _ _ _ _) ?_))
    have hRn : w.heap.size ≤ R := (by have := HA.out.2.2.2.1; have := HCl.out; omega); generalize hS : World.setCells w1 _ _ _ = wS; have HS : Hid (Below w.heap.size w wS ∧ wS.rangeAt R 0 [.int .u32 2, .int .u32 0, .int .u32 0, .int .u32 0, .int .i64 0, .int .i64 0, .int .i64 0, .int .i64 0, .int .u32 0, .int .i64 0, .int .i64 0, .int .i64 0, .int .i64 0, .int .u32 0, .int .i64 0, .int .i64 0, .int .i64 0, .int .i64 0, .int .u32 0]) := Lib.hid (by rw [← hS]; exact ⟨nbelow_cells (HA.out.1.trans (HB1.out.mono HA.out.1.size)) hRn _ _, World.rangeAt_setCells_same w1 R 0 [.int .u32 2, .int .u32 0, .int .u32 0, .int .u32 0, .int .i64 0, .int .i64 0, .int .i64 0, .int .i64 0, .int .u32 0, .int .i64 0, .int .i64 0, .int .i64 0, .int .i64 0, .int .u32 0, .int .i64 0, .int .i64 0, .int .i64 0, .int .i64 0, .int .u32 0] HT1.out⟩); have hld := nload rfl HS.out.2; refine bodyPost_ret (v := (Value.agg #[.int .u32 2, .int .u32 0, .int .u32 0, .int .u32 0, .int .i64 0, .int .i64 0, .int .i64 0, .int .i64 0, .int .u32 0, .int .i64 0, .int .i64 0, .int .i64 0, .int .i64 0, .int .u32 0, .int .i64 0, .int .i64 0, .int .i64 0, .int .i64 0, .int .u32 0])) (by simp [results, Tryz.results115, Act.put, asAddr, hld]) rfl ⟨rfl, HS.out.1⟩
end
end Go.Proofs.YtncopdhhchmpeaaGreatDoor
namespace Go.Proofs.YtncopdhhchmpeaaGreatDoor
open Go.ChangeShapes Go.WideShapes Go.ChangeAt Go.RowKit
set_option linter.unusedVariables false
/-- The cells of factories. -/
def mkW (sl : Nat → Bool) (ky : Nat → Nat → Nat → Int) : Nat → Nat → Value := fun i b => if b = 0 then .bool (sl i) else kval ((b - 1) % 5) (ky i ((b - 1) / 5) ((b - 1) % 5))
def MkAt (w : World) (base P p B G n c : Nat) (th : Nat → Bool) (vr : Nat → Int) (sl : Nat → Bool) (ky : Nat → Nat → Nat → Int) : Prop := PlAt 127 31 w base P p B G n c th vr (mkW sl ky)
/-- One part anew. -/
def updP (ky : Nat → Nat → Nat → Int) (i a : Nat) (y0 y1 y2 y3 y4 : Int) : Nat → Nat → Nat → Int := fun i' a' q => if i' = i ∧ a' = a then (if q = 0 then y0 else if q = 1 then y1 else if q = 2 then y2 else if q = 3 then y3 else y4) else ky i' a' q
theorem mkW_new (sl : Nat → Bool) (ky : Nat → Nat → Nat → Int) (i : Nat) (i' b : Nat) (hb : b < 31) : updS (mkW sl ky) i 0 zs31 i' b = mkW (upd sl i false) (upd ky i (fun _ _ => 0)) i' b := by
  by_cases h : i' = i
  · subst h
    have e := updS_in (mkW sl ky) i' 0 zs31 b (by rw [zs31_len]; exact hb)
    rw [Nat.zero_add] at e
    have e2 : zs31[b]? = some (zk b) := by simp [zs31, hb]
    rw [e2] at e
    rw [Option.some.inj e]
    unfold mkW zk
    rw [upd_at, upd_at]
    by_cases h0 : b = 0
    · rw [if_pos h0, if_pos h0]
    · rw [if_neg h0, if_neg h0]
      unfold kval
      by_cases h5 : b % 5 = 0
      · rw [if_pos h5, if_pos (by omega)]
      · rw [if_neg h5, if_neg (by omega)]
  · rw [updS_other _ _ _ _ _ _ (by omega)]
    unfold mkW
    rw [upd_other _ _ _ _ h, upd_other _ _ _ _ h]
theorem mkW_seal (sl : Nat → Bool) (ky : Nat → Nat → Nat → Int) (i : Nat) (t : Bool) (i' b : Nat) : updS (mkW sl ky) i 0 [.bool t] i' b = mkW (upd sl i t) ky i' b := by
  by_cases h : i' = i ∧ b = 0
  · obtain ⟨rfl, rfl⟩ := h
    simp [updS, mkW, upd]
  · rw [updS_other _ _ _ _ _ _ (by simp; omega)]
    unfold mkW
    by_cases hb : b = 0
    · rw [if_pos hb, if_pos hb, upd_other _ _ _ _ (fun e => h ⟨e, hb⟩)]
    · rw [if_neg hb, if_neg hb]
section
variable {w w' : World} {base P p B G n c : Nat} {th th' : Nat → Bool} {vr_ vr' : Nat → Int} {sl : Nat → Bool} {ky : Nat → Nat → Nat → Int}
theorem MkAt.pl (h : MkAt w base P p B G n c th vr_ sl ky) : PlAt 127 31 w base P p B G n c th vr_ (mkW sl ky) := h
theorem MkAt.ar (h : MkAt w base P p B G n c th vr_ sl ky) : ArAt w base p B n c th vr_ := h.pl.ar
theorem MkAt.below (h : MkAt w base P p B G n c th vr_ sl ky) (hb : Below w.heap.size w w') : MkAt w' base P p B G n c th vr_ sl ky := h.pl.below hb
theorem MkAt.congr (h : MkAt w base P p B G n c th vr_ sl ky) (h1 : ∀ i, i < n → th i = th' i) (h2 : ∀ i, i < n → vr_ i = vr' i) : MkAt w base P p B G n c th' vr' sl ky := h.pl.congr h1 h2
theorem MkAt.s0 (h : MkAt w base P p B G n c th vr_ sl ky) (i : Nat) (hi : i < n) : w.cell? ⟨G, i * 31, none⟩ = some (.bool (sl i)) := h.pl.cell i 0 hi (by decide)
end
theorem mkmake_is {base P p B G n c : Nat} {th : Nat → Bool} {vr_ : Nat → Int} {sl : Nat → Bool} {ky : Nat → Nat → Nat → Int} (id : Int) (j : Nat) (hid : Hid (id = j)) (hj : j < n) (hyes : Hid (freeB th vr_ j = true)) (hno : Hid (∀ i, i < j → freeB th vr_ i = false)) (v : Int) (hv : Hid (vr_ j = v)) (w : World) (h : MkAt w base P p B G n c th vr_ sl ky) :
    Calls Tryz.prog 30 #[.pointer (some ⟨P, 0, none⟩)] w fun e w' => e = .returned (.tuple #[.int .i64 id, .int .i64 v, .nilIface]) ∧ MkAt w' base P p B G n c (upd th j true) vr_ (upd sl j false) (upd ky j (fun _ _ => 0)) ∧ PBelow w w' B G :=
  (mkmake_ok id j hid hj hyes hno v hv w h.pl).mono fun e w' ⟨h1, h2, h3⟩ => ⟨h1, PlAt.congrW h2 (fun i b _ hb => mkW_new sl ky j i b hb) (by decide), h3⟩
theorem mkmay_ok {base P p B G n c : Nat} {th : Nat → Bool} {vr_ : Nat → Int} {sl : Nat → Bool} {ky : Nat → Nat → Nat → Int} (k : Nat) (hk : k < n) (ht : Hid (th k = true)) (hs : Hid (sl k = false)) (w : World) (h : MkAt w base P p B G n c th vr_ sl ky) :
    Calls Tryz.prog 80 #[.pointer (some ⟨P, 0, none⟩), .int .i64 k] w fun e w' => e = .returned .nilIface ∧ w = w' := by
  have H := Lib.hid h
  have f0 := h.pl.f0
  have f1 := h.pl.f1
  have c0 := h.s0 k hk
  rw [hs.out] at c0
  have k0 : (0 : Int) ≤ k := by omega
  have k1 : (k : Int) < n := by omega
  clear h
  go_enter Tryz.func80, Tryz.ntmps80
  go_wp2_with (first
    | (go_at_call 63; (with_reducible refine (athere_in k hk true ht _ H.out.ar).mono ?_); rintro e w1 ⟨rfl, rfl⟩))
  go_ret
  exact ⟨rfl, rfl⟩
theorem mkseal_ok {base P p B G n c : Nat} {th : Nat → Bool} {vr_ : Nat → Int} {sl : Nat → Bool} {ky : Nat → Nat → Nat → Int} (k : Nat) (hk : k < n) (ht : Hid (th k = true)) (hs : Hid (sl k = false)) (w : World) (h : MkAt w base P p B G n c th vr_ sl ky) :
    Calls Tryz.prog 31 #[.pointer (some ⟨P, 0, none⟩), .int .i64 k] w fun e w' => e = .returned .nilIface ∧ MkAt w' base P p B G n c th vr_ (upd sl k true) ky ∧ PBelow w w' B G := by
  have H := Lib.hid h
  have f1 := h.pl.f1
  have c0 := h.s0 k hk
  have z0 := h.pl.frz (k * 31)
  have hs2 := h.pl.cells k 0 hk [.bool true] (by decide)
  rw [Nat.add_zero] at hs2
  have HS2 := Lib.hid hs2
  have k0 : (0 : Int) ≤ k := by omega
  have k1 : (k : Int) < n := by omega
  clear h hs2
  go_enter Tryz.func31, Tryz.ntmps31
  go_wp2_with (first
    | (go_at_call 80; (with_reducible refine (mkmay_ok k hk ht hs _ H.out).mono ?_); rintro e w1 ⟨rfl, rfl⟩))
  go_ret
  exact ⟨rfl, PlAt.congrW HS2.out.1 (fun i b _ _ => mkW_seal sl ky k true i b) (by decide), PBelow.of HS2.out.2 (.inr rfl)⟩
theorem mksealed_in {base P p B G n c : Nat} {th : Nat → Bool} {vr_ : Nat → Int} {sl : Nat → Bool} {ky : Nat → Nat → Nat → Int} (k : Nat) (hk : k < n) (ht : Hid (th k = true)) (t : Bool) (hs : Hid (sl k = t)) (w : World) (h : MkAt w base P p B G n c th vr_ sl ky) :
    Calls Tryz.prog 69 #[.pointer (some ⟨P, 0, none⟩), .int .i64 k] w fun e w' => e = .returned (.bool t) ∧ w = w' := by
  have H := Lib.hid h
  have f0 := h.pl.f0
  have f1 := h.pl.f1
  have c0 := h.s0 k hk
  rw [hs.out] at c0
  have k0 : (0 : Int) ≤ k := by omega
  have k1 : (k : Int) < n := by omega
  clear h
  go_enter Tryz.func69, Tryz.ntmps69
  go_wp2_with (first
    | (go_at_call 63; (with_reducible refine (athere_in k hk true ht _ H.out.ar).mono ?_); rintro e w1 ⟨rfl, rfl⟩))
  go_ret
  exact ⟨rfl, rfl⟩
end Go.Proofs.YtncopdhhchmpeaaGreatDoor
namespace Go.Proofs.YtncopdhhchmpeaaGreatDoor
open Go.ChangeShapes Go.WideShapes Go.ChangeAt Go.RowKit
set_option linter.unusedVariables false
set_option linter.unusedSimpArgs false
section
variable {w0 w w' : World} {L : BLoc} {X : SLoc} {D : BSt}
theorem DMD.keep (h : DMD w L D) (hs : w.heap.size ≤ w'.heap.size) (hP : w'.heap[L.dP]? = w.heap[L.dP]?) (hp : w'.heap[L.dp]? = w.heap[L.dp]?) (hR : w'.heap[L.dR]? = w.heap[L.dR]?) (hG : w'.heap[L.dG]? = w.heap[L.dG]?) (hQ : w'.heap[L.dQ]? = w.heap[L.dQ]?) : DMD w' L D :=
  ⟨⟨Nat.lt_of_lt_of_le h.pl.pl hs, h.pl.pb, (World.cell?_of_block (a := ⟨L.dP, 0, none⟩) hP).trans h.pl.f0, (World.cell?_of_block (a := ⟨L.dP, 1, none⟩) hP).trans h.pl.f1, h.pl.ar.same2 hs hp hR, RowO.same (e := 0) h.pl.row hG, h.pl.n1, h.pl.n2, h.pl.n3, h.pl.n4⟩, (World.cell?_of_block (a := ⟨L.dP, 2, none⟩) hP).trans h.f2, RowO.same (e := 0) h.qs hQ, h.q1, h.q2, h.q3⟩
theorem BW.keep (h : BW w0 w L D) (hb : Below L.dB w w') (hP : w'.heap[L.dP]? = w.heap[L.dP]?) (hp : w'.heap[L.dp]? = w.heap[L.dp]?) (hR : w'.heap[L.dR]? = w.heap[L.dR]?) (hG : w'.heap[L.dG]? = w.heap[L.dG]?) (hQ : w'.heap[L.dQ]? = w.heap[L.dQ]?) (hk : ∀ k, L.bB ≤ k → k < L.T → w'.heap[k]? = w.heap[k]?) : BW w0 w' L D := by
  have hmd := h.md
  have ht := h.tt
  have hm := MMD.low h.m hb hmd.1 hmd.2.1 hmd.2.2
  have hd := DMD.keep h.d hb.size hP hp hR hG hQ
  have b1 := h.k.pb
  have b2 := h.k.ar.pb
  have b3 := h.k.ar.lt.1
  have b4 := h.k.ac.lt.1
  have b5 := h.k.t1.lt.1
  have b6 := h.k.t2.lt.1
  have b7 := h.k.t3.lt.1
  exact ⟨hm, hd, BkAt.keep h.k hb.size (hk _ b1 ht.2.1) (h.k.ar.same2 hb.size (hk _ b2 ht.2.2.1) (hk _ b3 ht.2.2.2.1)) (h.k.ac.same (hk _ b4 ht.2.2.2.2.1)) (h.k.t1.same (hk _ b5 ht.2.2.2.2.2.1)) (h.k.t2.same (hk _ b6 ht.2.2.2.2.2.2.1)) (h.k.t3.same (hk _ b7 ht.2.2.2.2.2.2.2)), hmd, h.db, h.dl, h.pk, h.nn, h.tt, Nat.le_trans h.tw hb.size⟩
end
/-- A system: what its banks hold, its meters, its factories. -/
structure SK (w0 w : World) (L : BLoc) (X : SLoc) (D : BSt) (mt : Nat → Bool) (mp mk : Nat → Int) (ft sl : Nat → Bool) (ky : Nat → Nat → Nat → Int) : Prop where
  k : BW w0 w L D
  t : MtAt w X.tB X.tP X.tp X.tR X.tG X.tn X.tn mt (fun _ => 0) mp mk
  f : PlAt 127 31 w X.fB X.fP X.fp X.fR X.fG X.fn X.fn ft (fun _ => 0) (mkW sl ky)
  b : SyB w X.s L.mb L.dP X.tP L.P X.fP X.q 0
  lo : L.T ≤ X.s ∧ L.T ≤ X.q ∧ X.s ≠ X.q ∧ L.T ≤ X.fB ∧ w0.heap.size ≤ X.tB ∧ L.dB ≤ X.tB ∧ L.dR < X.tB ∧ L.dG < X.tB ∧ X.tP < L.bB ∧ X.tp < L.bB ∧ X.tR < L.bB ∧ X.tG < L.bB
  sz : 0 < X.tn ∧ 0 < X.fn ∧ 0 < L.dn
section
variable {w0 w w' : World} {L : BLoc} {X : SLoc} {D : BSt} {mt mt' : Nat → Bool} {mp mk mp' mk' : Nat → Int} {ft sl ft' sl' : Nat → Bool} {ky ky' : Nat → Nat → Nat → Int}
theorem SJ.sk (h : SJ w0 w L X D) (sz : 0 < X.tn ∧ 0 < X.fn ∧ 0 < L.dn) : SK w0 w L X D (fun _ => false) (fun _ => 0) (fun _ => 0) (fun _ => false) (fun _ => false) (fun _ _ _ => 0) :=
  ⟨h.k, h.t, PlAt.congrW h.f (fun i j _ _ => by
    unfold zk mkW kval
    by_cases h0 : j = 0
    · rw [if_pos h0, if_pos h0]
    · rw [if_neg h0, if_neg h0]
      by_cases h5 : j % 5 = 0
      · rw [if_pos h5, if_pos (by omega)]
      · rw [if_neg h5, if_neg (by omega)]) (by decide), h.b, h.lo, sz⟩
theorem SK.below (h : SK w0 w L X D mt mp mk ft sl ky) (hb : Below w.heap.size w w') : SK w0 w' L X D mt mp mk ft sl ky :=
  ⟨h.k.below hb, h.t.below hb, h.f.same hb.size (hb.block _ h.f.pl) (hb.block _ h.f.ar.pl) (hb.block _ h.f.ar.lt.2) (hb.block _ (h.f.row.lt _ rfl).2), h.b.below hb, h.lo, h.sz⟩
theorem two_apart {w : World} {a b : Nat} {u v : Value} (h1 : w.cell? ⟨a, 0, none⟩ = some u) (h2 : w.cell? ⟨b, 0, none⟩ = some v) (hn : u ≠ v) : a ≠ b := fun e => hn (by
  subst e
  rw [h1] at h2
  exact Option.some.inj h2)
theorem SK.meter (h : SK w0 w L X D mt mp mk ft sl ky) (ht : MtAt w' X.tB X.tP X.tp X.tR X.tG X.tn X.tn mt' (fun _ => 0) mp' mk') (hb : PBelow w w' X.tR X.tG) : SK w0 w' L X D mt' mp' mk' ft sl ky := by
  have hl := h.lo
  have hlt := h.t.low2
  have hT := h.k.tt.1
  have c0 := h.t.ar.at0 0 h.sz.1
  have c1 := h.t.at0 0 h.sz.1
  rw [Nat.zero_mul] at c0 c1
  have dP0 := h.k.d.pl.f0
  have dp0 := h.k.d.pl.ar.fld
  have dQ0 : w.cell? ⟨L.dQ, 0, none⟩ = some (.slice none 0 0) := by
    have h1 := h.k.d.qs.cellAt 0 (by have := h.sz.2.2; omega)
    rw [h1]
    have h2 := flatS_at 2 (fun _ b => zq b) L.dn 0 0 h.sz.2.2 (by decide)
    simpa [zq] using h2
  have n1 := two_apart dP0 c0 (by simp)
  have n2 := two_apart dP0 c1 (by simp)
  have n3 := two_apart dp0 c0 (by simp)
  have n4 := two_apart dp0 c1 (by simp)
  have n5 := two_apart dQ0 c0 (by simp)
  have n6 := two_apart dQ0 c1 (by simp)
  have g := hb.2.2.2.2
  have hz := hb.2.2.2.1
  have q1 := h.k.d.pl.pl
  have q2 := h.k.d.pl.ar.pl
  have q3 := h.k.d.pl.ar.lt.2
  have q4 := h.k.d.pl.gl.2
  have q5 := (h.k.d.qs.lt L.dQ rfl).2
  have tw := h.k.tw
  have f1 := h.f.pb
  have f2 := h.f.ar.pb
  have f3 := h.f.ar.lt
  have f4 := h.f.row.lt X.fG rfl
  refine ⟨h.k.keep (hb.below (by omega) (by omega) (by omega)) (g _ q1 n1 n2) (g _ q2 n3 n4) (g _ q3 (by omega) (by omega)) (g _ q4 (by omega) (by omega)) (g _ q5 n5 n6) (fun k k1 k2 => g k (by omega) (by omega) (by omega)), ht, h.f.same hz (g _ h.f.pl (by omega) (by omega)) (g _ h.f.ar.pl (by omega) (by omega)) (g _ f3.2 (by omega) (by omega)) (g _ f4.2 (by omega) (by omega)), h.b.same hz (g _ h.b.lt (by omega) (by omega)), h.lo, h.sz⟩
theorem SK.maker (h : SK w0 w L X D mt mp mk ft sl ky) (hf : PlAt 127 31 w' X.fB X.fP X.fp X.fR X.fG X.fn X.fn ft' (fun _ => 0) (mkW sl' ky')) (hb : PBelow w w' X.fR X.fG) : SK w0 w' L X D mt mp mk ft' sl' ky' := by
  have hl := h.lo
  have hlt := h.t.low2
  have hT := h.k.tt.1
  have hdb := h.k.db
  have tw := h.k.tw
  have f3 := h.f.ar.lt
  have f4 := h.f.row.lt X.fG rfl
  have c0 := h.f.ar.at0 0 h.sz.2.1
  rw [Nat.zero_mul] at c0
  have c1 : w.cell? ⟨X.fG, 0, none⟩ = some (.bool (sl 0)) := by
    have h1 := h.f.row.cellAt 0 (by have := h.sz.2.1; omega)
    rw [h1]
    have h2 := flatS_at 31 (mkW sl ky) X.fn 0 0 h.sz.2.1 (by decide)
    simpa [mkW] using h2
  have n1 := two_apart h.b.c0 c0 (by simp)
  have n2 := two_apart h.b.c0 c1 (by simp)
  have g := hb.2.2.2.2
  have hz := hb.2.2.2.1
  have hbl : Below L.T w w' := hb.below (by omega) (by omega) tw
  exact ⟨h.k.keep (hbl.mono (by have := h.k.dl; omega)) (hbl.block _ (by omega)) (hbl.block _ (by omega)) (hbl.block _ (by omega)) (hbl.block _ (by omega)) (hbl.block _ (by omega)) (fun k _ k2 => hbl.block k k2), h.t.same hz (hbl.block _ (by omega)) (hbl.block _ (by omega)) (hbl.block _ (by omega)) (hbl.block _ (by omega)), hf, h.b.same hz (g _ h.b.lt n1 n2), h.lo, h.sz⟩
end
end Go.Proofs.YtncopdhhchmpeaaGreatDoor
namespace Go.Proofs.YtncopdhhchmpeaaGreatDoor
open Go.ChangeShapes Go.WideShapes Go.ChangeAt Go.RowKit
set_option linter.unusedVariables false
set_option linter.unusedSimpArgs false
section
variable {cs nt : List Value} {s N : Nat} {k1 k2 k3 k4 o x : Int} {Q : World → Prop}
set_option maxRecDepth 100000 in
set_option maxHeartbeats 2000000 in
theorem oanswer_number (hnl : nt.length = 19) (hn1 : ∀ v, v ∈ nt → v.oneCell' = true) (hc : Hid (CallC cs s 1 k1 k2 k3 k4 o x)) (w : World) (hN : N ≤ w.heap.size) (hQ : ∀ w1 w2, Q w1 → Below N w1 w2 → Q w2)
    (hm : ∀ W, Below w.heap.size w W → Calls Tryz.prog 112 #[(.agg cs.toArray)] W fun e w' => e = .returned (.agg nt.toArray) ∧ Q w' ∧ UpT N W w') :
    Calls Tryz.prog 81 #[(.agg cs.toArray)] w fun e w' => e = .returned (.agg nt.toArray) ∧ Q w' ∧ UpT N w w' := by
  have HQ := Lib.hid hQ
  have HM := Lib.hid hm
  have hsz : nt.toArray.size = 19 := by simp [hnl]
  clear hQ hm
  go_enter Tryz.func81, Tryz.ntmps81; go_upto_region 1 with fail; generalize hA : World.alloc w _ = wK; obtain ⟨C, hC⟩ : ∃ C, C = w.heap.size := ⟨_, rfl⟩; have HK : Hid (Below w.heap.size w wK ∧ wK.rangeAt C 0 cs ∧ wK.heap.size = C + 1) := Lib.hid (by rw [← hA, hC]; exact ⟨(Below.refl _ _).alloc (Nat.le_refl _) _, cbox _ _ _, by simp⟩); have HCl : Hid (w.heap.size ≤ C) := Lib.hid (by rw [hC]; exact Nat.le_refl _); rw [← hC]; clear hA hC; generalize hA : World.alloc wK _ = wA; obtain ⟨R, hR⟩ : ∃ R, R = C + 1 := ⟨_, rfl⟩; have HA : Hid (Below w.heap.size w wA ∧ wA.rangeAt C 0 cs ∧ World.there wA R 0 19 ∧ C < R ∧ R < wA.heap.size) := Lib.hid (by rw [← hA, hR, ← HK.out.2.2]; exact ⟨HK.out.1.alloc HK.out.1.size _, range_below HK.out.2.1 ((Below.refl _ _).alloc (Nat.le_refl _) _) (by have := HK.out.2.2; omega), nthere_new _ _ 19 (by rfl) _, by have := HK.out.2.2; omega, by simp⟩); rw [← hR]; clear hA hR
  have q1 := CallC.cell HA.out.2.1 1 _ hc.out.c1
  go_upto_region 3 with fail
  go_wp2_with (first
    | (refine wpList_load_mid (by rfl) _ _ (by rfl) C 0 (by rfl) cs _ HA.out.2.1 Tryz.underlying129 rfl (by rw [hc.out.len]; exact infoCall) ?_)
    | (go_at_call 112; (with_reducible refine (HM.out _ HA.out.1).mono ?_); rintro e w1 ⟨rfl, hq, hu⟩; have H1 := Lib.hid hq; have HU1 := Lib.hid hu; have HT1 : Hid (World.there w1 R 0 19) := Lib.hid (nthere_same HA.out.2.2.1 (hu.2 R (by have := HA.out.2.2.2.1; have := HCl.out; omega) HA.out.2.2.2.2)); clear hq hu)
    | (refine wpList_store_mid (by rfl) _ _ _ (by rfl) R 0 nt.toArray (by rfl) (by rfl) (by rw [hsz]; exact HT1.out) (by rw [hsz]; exact infoNote) (all_one hn1) ?_))
  have hRn : w.heap.size ≤ R := by have := HA.out.2.2.2.1; have := HCl.out; omega
  have HS : Hid (Below w.heap.size w1 (w1.setCells R 0 nt.toArray.toList) ∧ (w1.setCells R 0 nt.toArray.toList).rangeAt R 0 nt) := Lib.hid ⟨nbelow_cells (Below.refl _ _) hRn _ _, World.rangeAt_setCells_same w1 R 0 nt (by rw [hnl]; exact HT1.out)⟩
  have hld := nload hnl HS.out.2
  refine bodyPost_ret (v := (.agg nt.toArray)) (by simp [results, Tryz.results81, Act.put, asAddr, hld]) rfl ⟨rfl, HQ.out _ _ H1.out (HS.out.1.mono hN), ((UpT.below HA.out.1).trans HU1.out).low HS.out.1 (Nat.le_refl _)⟩
set_option maxRecDepth 100000 in
set_option maxHeartbeats 2000000 in
theorem oanswer_node (hnl : nt.length = 19) (hn1 : ∀ v, v ∈ nt → v.oneCell' = true) (hc : Hid (CallC cs s 2 k1 k2 k3 k4 o x)) (w : World) (hN : N ≤ w.heap.size) (hQ : ∀ w1 w2, Q w1 → Below N w1 w2 → Q w2)
    (hm : ∀ W, Below w.heap.size w W → Calls Tryz.prog 113 #[(.agg cs.toArray)] W fun e w' => e = .returned (.agg nt.toArray) ∧ Q w' ∧ UpT N W w') :
    Calls Tryz.prog 81 #[(.agg cs.toArray)] w fun e w' => e = .returned (.agg nt.toArray) ∧ Q w' ∧ UpT N w w' := by
  have HQ := Lib.hid hQ
  have HM := Lib.hid hm
  have hsz : nt.toArray.size = 19 := by simp [hnl]
  clear hQ hm
  go_enter Tryz.func81, Tryz.ntmps81; go_upto_region 1 with fail; generalize hA : World.alloc w _ = wK; obtain ⟨C, hC⟩ : ∃ C, C = w.heap.size := ⟨_, rfl⟩; have HK : Hid (Below w.heap.size w wK ∧ wK.rangeAt C 0 cs ∧ wK.heap.size = C + 1) := Lib.hid (by rw [← hA, hC]; exact ⟨(Below.refl _ _).alloc (Nat.le_refl _) _, cbox _ _ _, by simp⟩); have HCl : Hid (w.heap.size ≤ C) := Lib.hid (by rw [hC]; exact Nat.le_refl _); rw [← hC]; clear hA hC; generalize hA : World.alloc wK _ = wA; obtain ⟨R, hR⟩ : ∃ R, R = C + 1 := ⟨_, rfl⟩; have HA : Hid (Below w.heap.size w wA ∧ wA.rangeAt C 0 cs ∧ World.there wA R 0 19 ∧ C < R ∧ R < wA.heap.size) := Lib.hid (by rw [← hA, hR, ← HK.out.2.2]; exact ⟨HK.out.1.alloc HK.out.1.size _, range_below HK.out.2.1 ((Below.refl _ _).alloc (Nat.le_refl _) _) (by have := HK.out.2.2; omega), nthere_new _ _ 19 (by rfl) _, by have := HK.out.2.2; omega, by simp⟩); rw [← hR]; clear hA hR
  have q1 := CallC.cell HA.out.2.1 1 _ hc.out.c1
  go_upto_region 5 with fail
  go_wp2_with (first
    | (refine wpList_load_mid (by rfl) _ _ (by rfl) C 0 (by rfl) cs _ HA.out.2.1 Tryz.underlying129 rfl (by rw [hc.out.len]; exact infoCall) ?_)
    | (go_at_call 113; (with_reducible refine (HM.out _ HA.out.1).mono ?_); rintro e w1 ⟨rfl, hq, hu⟩; have H1 := Lib.hid hq; have HU1 := Lib.hid hu; have HT1 : Hid (World.there w1 R 0 19) := Lib.hid (nthere_same HA.out.2.2.1 (hu.2 R (by have := HA.out.2.2.2.1; have := HCl.out; omega) HA.out.2.2.2.2)); clear hq hu)
    | (refine wpList_store_mid (by rfl) _ _ _ (by rfl) R 0 nt.toArray (by rfl) (by rfl) (by rw [hsz]; exact HT1.out) (by rw [hsz]; exact infoNote) (all_one hn1) ?_))
  have hRn : w.heap.size ≤ R := by have := HA.out.2.2.2.1; have := HCl.out; omega
  have HS : Hid (Below w.heap.size w1 (w1.setCells R 0 nt.toArray.toList) ∧ (w1.setCells R 0 nt.toArray.toList).rangeAt R 0 nt) := Lib.hid ⟨nbelow_cells (Below.refl _ _) hRn _ _, World.rangeAt_setCells_same w1 R 0 nt (by rw [hnl]; exact HT1.out)⟩
  have hld := nload hnl HS.out.2
  refine bodyPost_ret (v := (.agg nt.toArray)) (by simp [results, Tryz.results81, Act.put, asAddr, hld]) rfl ⟨rfl, HQ.out _ _ H1.out (HS.out.1.mono hN), ((UpT.below HA.out.1).trans HU1.out).low HS.out.1 (Nat.le_refl _)⟩
set_option maxRecDepth 100000 in
set_option maxHeartbeats 2000000 in
theorem oanswer_page (hnl : nt.length = 19) (hn1 : ∀ v, v ∈ nt → v.oneCell' = true) (hc : Hid (CallC cs s 3 k1 k2 k3 k4 o x)) (w : World) (hN : N ≤ w.heap.size) (hQ : ∀ w1 w2, Q w1 → Below N w1 w2 → Q w2)
    (hm : ∀ W, Below w.heap.size w W → Calls Tryz.prog 114 #[(.agg cs.toArray)] W fun e w' => e = .returned (.agg nt.toArray) ∧ Q w' ∧ UpT N W w') :
    Calls Tryz.prog 81 #[(.agg cs.toArray)] w fun e w' => e = .returned (.agg nt.toArray) ∧ Q w' ∧ UpT N w w' := by
  have HQ := Lib.hid hQ
  have HM := Lib.hid hm
  have hsz : nt.toArray.size = 19 := by simp [hnl]
  clear hQ hm
  go_enter Tryz.func81, Tryz.ntmps81; go_upto_region 1 with fail; generalize hA : World.alloc w _ = wK; obtain ⟨C, hC⟩ : ∃ C, C = w.heap.size := ⟨_, rfl⟩; have HK : Hid (Below w.heap.size w wK ∧ wK.rangeAt C 0 cs ∧ wK.heap.size = C + 1) := Lib.hid (by rw [← hA, hC]; exact ⟨(Below.refl _ _).alloc (Nat.le_refl _) _, cbox _ _ _, by simp⟩); have HCl : Hid (w.heap.size ≤ C) := Lib.hid (by rw [hC]; exact Nat.le_refl _); rw [← hC]; clear hA hC; generalize hA : World.alloc wK _ = wA; obtain ⟨R, hR⟩ : ∃ R, R = C + 1 := ⟨_, rfl⟩; have HA : Hid (Below w.heap.size w wA ∧ wA.rangeAt C 0 cs ∧ World.there wA R 0 19 ∧ C < R ∧ R < wA.heap.size) := Lib.hid (by rw [← hA, hR, ← HK.out.2.2]; exact ⟨HK.out.1.alloc HK.out.1.size _, range_below HK.out.2.1 ((Below.refl _ _).alloc (Nat.le_refl _) _) (by have := HK.out.2.2; omega), nthere_new _ _ 19 (by rfl) _, by have := HK.out.2.2; omega, by simp⟩); rw [← hR]; clear hA hR
  have q1 := CallC.cell HA.out.2.1 1 _ hc.out.c1
  go_upto_region 7 with fail
  go_wp2_with (first
    | (refine wpList_load_mid (by rfl) _ _ (by rfl) C 0 (by rfl) cs _ HA.out.2.1 Tryz.underlying129 rfl (by rw [hc.out.len]; exact infoCall) ?_)
    | (go_at_call 114; (with_reducible refine (HM.out _ HA.out.1).mono ?_); rintro e w1 ⟨rfl, hq, hu⟩; have H1 := Lib.hid hq; have HU1 := Lib.hid hu; have HT1 : Hid (World.there w1 R 0 19) := Lib.hid (nthere_same HA.out.2.2.1 (hu.2 R (by have := HA.out.2.2.2.1; have := HCl.out; omega) HA.out.2.2.2.2)); clear hq hu)
    | (refine wpList_store_mid (by rfl) _ _ _ (by rfl) R 0 nt.toArray (by rfl) (by rfl) (by rw [hsz]; exact HT1.out) (by rw [hsz]; exact infoNote) (all_one hn1) ?_))
  have hRn : w.heap.size ≤ R := by have := HA.out.2.2.2.1; have := HCl.out; omega
  have HS : Hid (Below w.heap.size w1 (w1.setCells R 0 nt.toArray.toList) ∧ (w1.setCells R 0 nt.toArray.toList).rangeAt R 0 nt) := Lib.hid ⟨nbelow_cells (Below.refl _ _) hRn _ _, World.rangeAt_setCells_same w1 R 0 nt (by rw [hnl]; exact HT1.out)⟩
  have hld := nload hnl HS.out.2
  refine bodyPost_ret (v := (.agg nt.toArray)) (by simp [results, Tryz.results81, Act.put, asAddr, hld]) rfl ⟨rfl, HQ.out _ _ H1.out (HS.out.1.mono hN), ((UpT.below HA.out.1).trans HU1.out).low HS.out.1 (Nat.le_refl _)⟩
set_option maxRecDepth 100000 in
set_option maxHeartbeats 2000000 in
theorem oanswer_domain (hnl : nt.length = 19) (hn1 : ∀ v, v ∈ nt → v.oneCell' = true) (hc : Hid (CallC cs s 4 k1 k2 k3 k4 o x)) (w : World) (hN : N ≤ w.heap.size) (hQ : ∀ w1 w2, Q w1 → Below N w1 w2 → Q w2)
    (hm : ∀ W, Below w.heap.size w W → Calls Tryz.prog 115 #[(.agg cs.toArray)] W fun e w' => e = .returned (.agg nt.toArray) ∧ Q w' ∧ UpT N W w') :
    Calls Tryz.prog 81 #[(.agg cs.toArray)] w fun e w' => e = .returned (.agg nt.toArray) ∧ Q w' ∧ UpT N w w' := by
  have HQ := Lib.hid hQ
  have HM := Lib.hid hm
  have hsz : nt.toArray.size = 19 := by simp [hnl]
  clear hQ hm
  go_enter Tryz.func81, Tryz.ntmps81; go_upto_region 1 with fail; generalize hA : World.alloc w _ = wK; obtain ⟨C, hC⟩ : ∃ C, C = w.heap.size := ⟨_, rfl⟩; have HK : Hid (Below w.heap.size w wK ∧ wK.rangeAt C 0 cs ∧ wK.heap.size = C + 1) := Lib.hid (by rw [← hA, hC]; exact ⟨(Below.refl _ _).alloc (Nat.le_refl _) _, cbox _ _ _, by simp⟩); have HCl : Hid (w.heap.size ≤ C) := Lib.hid (by rw [hC]; exact Nat.le_refl _); rw [← hC]; clear hA hC; generalize hA : World.alloc wK _ = wA; obtain ⟨R, hR⟩ : ∃ R, R = C + 1 := ⟨_, rfl⟩; have HA : Hid (Below w.heap.size w wA ∧ wA.rangeAt C 0 cs ∧ World.there wA R 0 19 ∧ C < R ∧ R < wA.heap.size) := Lib.hid (by rw [← hA, hR, ← HK.out.2.2]; exact ⟨HK.out.1.alloc HK.out.1.size _, range_below HK.out.2.1 ((Below.refl _ _).alloc (Nat.le_refl _) _) (by have := HK.out.2.2; omega), nthere_new _ _ 19 (by rfl) _, by have := HK.out.2.2; omega, by simp⟩); rw [← hR]; clear hA hR
  have q1 := CallC.cell HA.out.2.1 1 _ hc.out.c1
  go_upto_region 9 with fail
  go_wp2_with (first
    | (refine wpList_load_mid (by rfl) _ _ (by rfl) C 0 (by rfl) cs _ HA.out.2.1 Tryz.underlying129 rfl (by rw [hc.out.len]; exact infoCall) ?_)
    | (go_at_call 115; (with_reducible refine (HM.out _ HA.out.1).mono ?_); rintro e w1 ⟨rfl, hq, hu⟩; have H1 := Lib.hid hq; have HU1 := Lib.hid hu; have HT1 : Hid (World.there w1 R 0 19) := Lib.hid (nthere_same HA.out.2.2.1 (hu.2 R (by have := HA.out.2.2.2.1; have := HCl.out; omega) HA.out.2.2.2.2)); clear hq hu)
    | (refine wpList_store_mid (by rfl) _ _ _ (by rfl) R 0 nt.toArray (by rfl) (by rfl) (by rw [hsz]; exact HT1.out) (by rw [hsz]; exact infoNote) (all_one hn1) ?_))
  have hRn : w.heap.size ≤ R := by have := HA.out.2.2.2.1; have := HCl.out; omega
  have HS : Hid (Below w.heap.size w1 (w1.setCells R 0 nt.toArray.toList) ∧ (w1.setCells R 0 nt.toArray.toList).rangeAt R 0 nt) := Lib.hid ⟨nbelow_cells (Below.refl _ _) hRn _ _, World.rangeAt_setCells_same w1 R 0 nt (by rw [hnl]; exact HT1.out)⟩
  have hld := nload hnl HS.out.2
  refine bodyPost_ret (v := (.agg nt.toArray)) (by simp [results, Tryz.results81, Act.put, asAddr, hld]) rfl ⟨rfl, HQ.out _ _ H1.out (HS.out.1.mono hN), ((UpT.below HA.out.1).trans HU1.out).low HS.out.1 (Nat.le_refl _)⟩
set_option maxRecDepth 100000 in
set_option maxHeartbeats 2000000 in
theorem oanswer_bank (hnl : nt.length = 19) (hn1 : ∀ v, v ∈ nt → v.oneCell' = true) (hc : Hid (CallC cs s 8 k1 k2 k3 k4 o x)) (w : World) (hN : N ≤ w.heap.size) (hQ : ∀ w1 w2, Q w1 → Below N w1 w2 → Q w2)
    (hm : ∀ W, Below w.heap.size w W → Calls Tryz.prog 117 #[(.agg cs.toArray)] W fun e w' => e = .returned (.agg nt.toArray) ∧ Q w' ∧ UpT N W w') :
    Calls Tryz.prog 81 #[(.agg cs.toArray)] w fun e w' => e = .returned (.agg nt.toArray) ∧ Q w' ∧ UpT N w w' := by
  have HQ := Lib.hid hQ
  have HM := Lib.hid hm
  have hsz : nt.toArray.size = 19 := by simp [hnl]
  clear hQ hm
  go_enter Tryz.func81, Tryz.ntmps81; go_upto_region 1 with fail; generalize hA : World.alloc w _ = wK; obtain ⟨C, hC⟩ : ∃ C, C = w.heap.size := ⟨_, rfl⟩; have HK : Hid (Below w.heap.size w wK ∧ wK.rangeAt C 0 cs ∧ wK.heap.size = C + 1) := Lib.hid (by rw [← hA, hC]; exact ⟨(Below.refl _ _).alloc (Nat.le_refl _) _, cbox _ _ _, by simp⟩); have HCl : Hid (w.heap.size ≤ C) := Lib.hid (by rw [hC]; exact Nat.le_refl _); rw [← hC]; clear hA hC; generalize hA : World.alloc wK _ = wA; obtain ⟨R, hR⟩ : ∃ R, R = C + 1 := ⟨_, rfl⟩; have HA : Hid (Below w.heap.size w wA ∧ wA.rangeAt C 0 cs ∧ World.there wA R 0 19 ∧ C < R ∧ R < wA.heap.size) := Lib.hid (by rw [← hA, hR, ← HK.out.2.2]; exact ⟨HK.out.1.alloc HK.out.1.size _, range_below HK.out.2.1 ((Below.refl _ _).alloc (Nat.le_refl _) _) (by have := HK.out.2.2; omega), nthere_new _ _ 19 (by rfl) _, by have := HK.out.2.2; omega, by simp⟩); rw [← hR]; clear hA hR
  have q1 := CallC.cell HA.out.2.1 1 _ hc.out.c1
  go_upto_region 13 with fail
  go_wp2_with (first
    | (refine wpList_load_mid (by rfl) _ _ (by rfl) C 0 (by rfl) cs _ HA.out.2.1 Tryz.underlying129 rfl (by rw [hc.out.len]; exact infoCall) ?_)
    | (go_at_call 117; (with_reducible refine (HM.out _ HA.out.1).mono ?_); rintro e w1 ⟨rfl, hq, hu⟩; have H1 := Lib.hid hq; have HU1 := Lib.hid hu; have HT1 : Hid (World.there w1 R 0 19) := Lib.hid (nthere_same HA.out.2.2.1 (hu.2 R (by have := HA.out.2.2.2.1; have := HCl.out; omega) HA.out.2.2.2.2)); clear hq hu)
    | (refine wpList_store_mid (by rfl) _ _ _ (by rfl) R 0 nt.toArray (by rfl) (by rfl) (by rw [hsz]; exact HT1.out) (by rw [hsz]; exact infoNote) (all_one hn1) ?_))
  have hRn : w.heap.size ≤ R := by have := HA.out.2.2.2.1; have := HCl.out; omega
  have HS : Hid (Below w.heap.size w1 (w1.setCells R 0 nt.toArray.toList) ∧ (w1.setCells R 0 nt.toArray.toList).rangeAt R 0 nt) := Lib.hid ⟨nbelow_cells (Below.refl _ _) hRn _ _, World.rangeAt_setCells_same w1 R 0 nt (by rw [hnl]; exact HT1.out)⟩
  have hld := nload hnl HS.out.2
  refine bodyPost_ret (v := (.agg nt.toArray)) (by simp [results, Tryz.results81, Act.put, asAddr, hld]) rfl ⟨rfl, HQ.out _ _ H1.out (HS.out.1.mono hN), ((UpT.below HA.out.1).trans HU1.out).low HS.out.1 (Nat.le_refl _)⟩
set_option maxRecDepth 100000 in
set_option maxHeartbeats 2000000 in
theorem oanswer_maker (hnl : nt.length = 19) (hn1 : ∀ v, v ∈ nt → v.oneCell' = true) (hc : Hid (CallC cs s 9 k1 k2 k3 k4 o x)) (w : World) (hN : N ≤ w.heap.size) (hQ : ∀ w1 w2, Q w1 → Below N w1 w2 → Q w2)
    (hm : ∀ W, Below w.heap.size w W → Calls Tryz.prog 118 #[(.agg cs.toArray)] W fun e w' => e = .returned (.agg nt.toArray) ∧ Q w' ∧ UpT N W w') :
    Calls Tryz.prog 81 #[(.agg cs.toArray)] w fun e w' => e = .returned (.agg nt.toArray) ∧ Q w' ∧ UpT N w w' := by
  have HQ := Lib.hid hQ
  have HM := Lib.hid hm
  have hsz : nt.toArray.size = 19 := by simp [hnl]
  clear hQ hm
  go_enter Tryz.func81, Tryz.ntmps81; go_upto_region 1 with fail; generalize hA : World.alloc w _ = wK; obtain ⟨C, hC⟩ : ∃ C, C = w.heap.size := ⟨_, rfl⟩; have HK : Hid (Below w.heap.size w wK ∧ wK.rangeAt C 0 cs ∧ wK.heap.size = C + 1) := Lib.hid (by rw [← hA, hC]; exact ⟨(Below.refl _ _).alloc (Nat.le_refl _) _, cbox _ _ _, by simp⟩); have HCl : Hid (w.heap.size ≤ C) := Lib.hid (by rw [hC]; exact Nat.le_refl _); rw [← hC]; clear hA hC; generalize hA : World.alloc wK _ = wA; obtain ⟨R, hR⟩ : ∃ R, R = C + 1 := ⟨_, rfl⟩; have HA : Hid (Below w.heap.size w wA ∧ wA.rangeAt C 0 cs ∧ World.there wA R 0 19 ∧ C < R ∧ R < wA.heap.size) := Lib.hid (by rw [← hA, hR, ← HK.out.2.2]; exact ⟨HK.out.1.alloc HK.out.1.size _, range_below HK.out.2.1 ((Below.refl _ _).alloc (Nat.le_refl _) _) (by have := HK.out.2.2; omega), nthere_new _ _ 19 (by rfl) _, by have := HK.out.2.2; omega, by simp⟩); rw [← hR]; clear hA hR
  have q1 := CallC.cell HA.out.2.1 1 _ hc.out.c1
  go_upto_region 15 with fail
  go_wp2_with (first
    | (refine wpList_load_mid (by rfl) _ _ (by rfl) C 0 (by rfl) cs _ HA.out.2.1 Tryz.underlying129 rfl (by rw [hc.out.len]; exact infoCall) ?_)
    | (go_at_call 118; (with_reducible refine (HM.out _ HA.out.1).mono ?_); rintro e w1 ⟨rfl, hq, hu⟩; have H1 := Lib.hid hq; have HU1 := Lib.hid hu; have HT1 : Hid (World.there w1 R 0 19) := Lib.hid (nthere_same HA.out.2.2.1 (hu.2 R (by have := HA.out.2.2.2.1; have := HCl.out; omega) HA.out.2.2.2.2)); clear hq hu)
    | (refine wpList_store_mid (by rfl) _ _ _ (by rfl) R 0 nt.toArray (by rfl) (by rfl) (by rw [hsz]; exact HT1.out) (by rw [hsz]; exact infoNote) (all_one hn1) ?_))
  have hRn : w.heap.size ≤ R := by have := HA.out.2.2.2.1; have := HCl.out; omega
  have HS : Hid (Below w.heap.size w1 (w1.setCells R 0 nt.toArray.toList) ∧ (w1.setCells R 0 nt.toArray.toList).rangeAt R 0 nt) := Lib.hid ⟨nbelow_cells (Below.refl _ _) hRn _ _, World.rangeAt_setCells_same w1 R 0 nt (by rw [hnl]; exact HT1.out)⟩
  have hld := nload hnl HS.out.2
  refine bodyPost_ret (v := (.agg nt.toArray)) (by simp [results, Tryz.results81, Act.put, asAddr, hld]) rfl ⟨rfl, HQ.out _ _ H1.out (HS.out.1.mono hN), ((UpT.below HA.out.1).trans HU1.out).low HS.out.1 (Nat.le_refl _)⟩
set_option maxRecDepth 100000 in
set_option maxHeartbeats 2000000 in
theorem oanswer_builder (hnl : nt.length = 19) (hn1 : ∀ v, v ∈ nt → v.oneCell' = true) (hc : Hid (CallC cs s 10 k1 k2 k3 k4 o x)) (w : World) (hN : N ≤ w.heap.size) (hQ : ∀ w1 w2, Q w1 → Below N w1 w2 → Q w2)
    (hm : ∀ W, Below w.heap.size w W → Calls Tryz.prog 119 #[(.agg cs.toArray)] W fun e w' => e = .returned (.agg nt.toArray) ∧ Q w' ∧ UpT N W w') :
    Calls Tryz.prog 81 #[(.agg cs.toArray)] w fun e w' => e = .returned (.agg nt.toArray) ∧ Q w' ∧ UpT N w w' := by
  have HQ := Lib.hid hQ
  have HM := Lib.hid hm
  have hsz : nt.toArray.size = 19 := by simp [hnl]
  clear hQ hm
  go_enter Tryz.func81, Tryz.ntmps81; go_upto_region 1 with fail; generalize hA : World.alloc w _ = wK; obtain ⟨C, hC⟩ : ∃ C, C = w.heap.size := ⟨_, rfl⟩; have HK : Hid (Below w.heap.size w wK ∧ wK.rangeAt C 0 cs ∧ wK.heap.size = C + 1) := Lib.hid (by rw [← hA, hC]; exact ⟨(Below.refl _ _).alloc (Nat.le_refl _) _, cbox _ _ _, by simp⟩); have HCl : Hid (w.heap.size ≤ C) := Lib.hid (by rw [hC]; exact Nat.le_refl _); rw [← hC]; clear hA hC; generalize hA : World.alloc wK _ = wA; obtain ⟨R, hR⟩ : ∃ R, R = C + 1 := ⟨_, rfl⟩; have HA : Hid (Below w.heap.size w wA ∧ wA.rangeAt C 0 cs ∧ World.there wA R 0 19 ∧ C < R ∧ R < wA.heap.size) := Lib.hid (by rw [← hA, hR, ← HK.out.2.2]; exact ⟨HK.out.1.alloc HK.out.1.size _, range_below HK.out.2.1 ((Below.refl _ _).alloc (Nat.le_refl _) _) (by have := HK.out.2.2; omega), nthere_new _ _ 19 (by rfl) _, by have := HK.out.2.2; omega, by simp⟩); rw [← hR]; clear hA hR
  have q1 := CallC.cell HA.out.2.1 1 _ hc.out.c1
  go_upto_region 17 with fail
  go_wp2_with (first
    | (refine wpList_load_mid (by rfl) _ _ (by rfl) C 0 (by rfl) cs _ HA.out.2.1 Tryz.underlying129 rfl (by rw [hc.out.len]; exact infoCall) ?_)
    | (go_at_call 119; (with_reducible refine (HM.out _ HA.out.1).mono ?_); rintro e w1 ⟨rfl, hq, hu⟩; have H1 := Lib.hid hq; have HU1 := Lib.hid hu; have HT1 : Hid (World.there w1 R 0 19) := Lib.hid (nthere_same HA.out.2.2.1 (hu.2 R (by have := HA.out.2.2.2.1; have := HCl.out; omega) HA.out.2.2.2.2)); clear hq hu)
    | (refine wpList_store_mid (by rfl) _ _ _ (by rfl) R 0 nt.toArray (by rfl) (by rfl) (by rw [hsz]; exact HT1.out) (by rw [hsz]; exact infoNote) (all_one hn1) ?_))
  have hRn : w.heap.size ≤ R := by have := HA.out.2.2.2.1; have := HCl.out; omega
  have HS : Hid (Below w.heap.size w1 (w1.setCells R 0 nt.toArray.toList) ∧ (w1.setCells R 0 nt.toArray.toList).rangeAt R 0 nt) := Lib.hid ⟨nbelow_cells (Below.refl _ _) hRn _ _, World.rangeAt_setCells_same w1 R 0 nt (by rw [hnl]; exact HT1.out)⟩
  have hld := nload hnl HS.out.2
  refine bodyPost_ret (v := (.agg nt.toArray)) (by simp [results, Tryz.results81, Act.put, asAddr, hld]) rfl ⟨rfl, HQ.out _ _ H1.out (HS.out.1.mono hN), ((UpT.below HA.out.1).trans HU1.out).low HS.out.1 (Nat.le_refl _)⟩
set_option maxRecDepth 100000 in
set_option maxHeartbeats 2000000 in
theorem oanswer_creator (hnl : nt.length = 19) (hn1 : ∀ v, v ∈ nt → v.oneCell' = true) (hc : Hid (CallC cs s 11 k1 k2 k3 k4 o x)) (w : World) (hN : N ≤ w.heap.size) (hQ : ∀ w1 w2, Q w1 → Below N w1 w2 → Q w2)
    (hm : ∀ W, Below w.heap.size w W → Calls Tryz.prog 120 #[(.agg cs.toArray)] W fun e w' => e = .returned (.agg nt.toArray) ∧ Q w' ∧ UpT N W w') :
    Calls Tryz.prog 81 #[(.agg cs.toArray)] w fun e w' => e = .returned (.agg nt.toArray) ∧ Q w' ∧ UpT N w w' := by
  have HQ := Lib.hid hQ
  have HM := Lib.hid hm
  have hsz : nt.toArray.size = 19 := by simp [hnl]
  clear hQ hm
  go_enter Tryz.func81, Tryz.ntmps81; go_upto_region 1 with fail; generalize hA : World.alloc w _ = wK; obtain ⟨C, hC⟩ : ∃ C, C = w.heap.size := ⟨_, rfl⟩; have HK : Hid (Below w.heap.size w wK ∧ wK.rangeAt C 0 cs ∧ wK.heap.size = C + 1) := Lib.hid (by rw [← hA, hC]; exact ⟨(Below.refl _ _).alloc (Nat.le_refl _) _, cbox _ _ _, by simp⟩); have HCl : Hid (w.heap.size ≤ C) := Lib.hid (by rw [hC]; exact Nat.le_refl _); rw [← hC]; clear hA hC; generalize hA : World.alloc wK _ = wA; obtain ⟨R, hR⟩ : ∃ R, R = C + 1 := ⟨_, rfl⟩; have HA : Hid (Below w.heap.size w wA ∧ wA.rangeAt C 0 cs ∧ World.there wA R 0 19 ∧ C < R ∧ R < wA.heap.size) := Lib.hid (by rw [← hA, hR, ← HK.out.2.2]; exact ⟨HK.out.1.alloc HK.out.1.size _, range_below HK.out.2.1 ((Below.refl _ _).alloc (Nat.le_refl _) _) (by have := HK.out.2.2; omega), nthere_new _ _ 19 (by rfl) _, by have := HK.out.2.2; omega, by simp⟩); rw [← hR]; clear hA hR
  have q1 := CallC.cell HA.out.2.1 1 _ hc.out.c1
  go_upto_region 19 with fail
  go_wp2_with (first
    | (refine wpList_load_mid (by rfl) _ _ (by rfl) C 0 (by rfl) cs _ HA.out.2.1 Tryz.underlying129 rfl (by rw [hc.out.len]; exact infoCall) ?_)
    | (go_at_call 120; (with_reducible refine (HM.out _ HA.out.1).mono ?_); rintro e w1 ⟨rfl, hq, hu⟩; have H1 := Lib.hid hq; have HU1 := Lib.hid hu; have HT1 : Hid (World.there w1 R 0 19) := Lib.hid (nthere_same HA.out.2.2.1 (hu.2 R (by have := HA.out.2.2.2.1; have := HCl.out; omega) HA.out.2.2.2.2)); clear hq hu)
    | (refine wpList_store_mid (by rfl) _ _ _ (by rfl) R 0 nt.toArray (by rfl) (by rfl) (by rw [hsz]; exact HT1.out) (by rw [hsz]; exact infoNote) (all_one hn1) ?_))
  have hRn : w.heap.size ≤ R := by have := HA.out.2.2.2.1; have := HCl.out; omega
  have HS : Hid (Below w.heap.size w1 (w1.setCells R 0 nt.toArray.toList) ∧ (w1.setCells R 0 nt.toArray.toList).rangeAt R 0 nt) := Lib.hid ⟨nbelow_cells (Below.refl _ _) hRn _ _, World.rangeAt_setCells_same w1 R 0 nt (by rw [hnl]; exact HT1.out)⟩
  have hld := nload hnl HS.out.2
  refine bodyPost_ret (v := (.agg nt.toArray)) (by simp [results, Tryz.results81, Act.put, asAddr, hld]) rfl ⟨rfl, HQ.out _ _ H1.out (HS.out.1.mono hN), ((UpT.below HA.out.1).trans HU1.out).low HS.out.1 (Nat.le_refl _)⟩
set_option maxRecDepth 100000 in
set_option maxHeartbeats 2000000 in
theorem oanswer_console (hnl : nt.length = 19) (hn1 : ∀ v, v ∈ nt → v.oneCell' = true) (hc : Hid (CallC cs s 13 k1 k2 k3 k4 o x)) (w : World) (hN : N ≤ w.heap.size) (hQ : ∀ w1 w2, Q w1 → Below N w1 w2 → Q w2)
    (hm : ∀ W, Below w.heap.size w W → Calls Tryz.prog 122 #[(.agg cs.toArray)] W fun e w' => e = .returned (.agg nt.toArray) ∧ Q w' ∧ UpT N W w') :
    Calls Tryz.prog 81 #[(.agg cs.toArray)] w fun e w' => e = .returned (.agg nt.toArray) ∧ Q w' ∧ UpT N w w' := by
  have HQ := Lib.hid hQ
  have HM := Lib.hid hm
  have hsz : nt.toArray.size = 19 := by simp [hnl]
  clear hQ hm
  go_enter Tryz.func81, Tryz.ntmps81; go_upto_region 1 with fail; generalize hA : World.alloc w _ = wK; obtain ⟨C, hC⟩ : ∃ C, C = w.heap.size := ⟨_, rfl⟩; have HK : Hid (Below w.heap.size w wK ∧ wK.rangeAt C 0 cs ∧ wK.heap.size = C + 1) := Lib.hid (by rw [← hA, hC]; exact ⟨(Below.refl _ _).alloc (Nat.le_refl _) _, cbox _ _ _, by simp⟩); have HCl : Hid (w.heap.size ≤ C) := Lib.hid (by rw [hC]; exact Nat.le_refl _); rw [← hC]; clear hA hC; generalize hA : World.alloc wK _ = wA; obtain ⟨R, hR⟩ : ∃ R, R = C + 1 := ⟨_, rfl⟩; have HA : Hid (Below w.heap.size w wA ∧ wA.rangeAt C 0 cs ∧ World.there wA R 0 19 ∧ C < R ∧ R < wA.heap.size) := Lib.hid (by rw [← hA, hR, ← HK.out.2.2]; exact ⟨HK.out.1.alloc HK.out.1.size _, range_below HK.out.2.1 ((Below.refl _ _).alloc (Nat.le_refl _) _) (by have := HK.out.2.2; omega), nthere_new _ _ 19 (by rfl) _, by have := HK.out.2.2; omega, by simp⟩); rw [← hR]; clear hA hR
  have q1 := CallC.cell HA.out.2.1 1 _ hc.out.c1
  go_upto_region 23 with fail
  go_wp2_with (first
    | (refine wpList_load_mid (by rfl) _ _ (by rfl) C 0 (by rfl) cs _ HA.out.2.1 Tryz.underlying129 rfl (by rw [hc.out.len]; exact infoCall) ?_)
    | (go_at_call 122; (with_reducible refine (HM.out _ HA.out.1).mono ?_); rintro e w1 ⟨rfl, hq, hu⟩; have H1 := Lib.hid hq; have HU1 := Lib.hid hu; have HT1 : Hid (World.there w1 R 0 19) := Lib.hid (nthere_same HA.out.2.2.1 (hu.2 R (by have := HA.out.2.2.2.1; have := HCl.out; omega) HA.out.2.2.2.2)); clear hq hu)
    | (refine wpList_store_mid (by rfl) _ _ _ (by rfl) R 0 nt.toArray (by rfl) (by rfl) (by rw [hsz]; exact HT1.out) (by rw [hsz]; exact infoNote) (all_one hn1) ?_))
  have hRn : w.heap.size ≤ R := by have := HA.out.2.2.2.1; have := HCl.out; omega
  have HS : Hid (Below w.heap.size w1 (w1.setCells R 0 nt.toArray.toList) ∧ (w1.setCells R 0 nt.toArray.toList).rangeAt R 0 nt) := Lib.hid ⟨nbelow_cells (Below.refl _ _) hRn _ _, World.rangeAt_setCells_same w1 R 0 nt (by rw [hnl]; exact HT1.out)⟩
  have hld := nload hnl HS.out.2
  refine bodyPost_ret (v := (.agg nt.toArray)) (by simp [results, Tryz.results81, Act.put, asAddr, hld]) rfl ⟨rfl, HQ.out _ _ H1.out (HS.out.1.mono hN), ((UpT.below HA.out.1).trans HU1.out).low HS.out.1 (Nat.le_refl _)⟩
set_option maxRecDepth 100000 in
set_option maxHeartbeats 2000000 in
theorem oanswer_clock (hnl : nt.length = 19) (hn1 : ∀ v, v ∈ nt → v.oneCell' = true) (hc : Hid (CallC cs s 14 k1 k2 k3 k4 o x)) (w : World) (hN : N ≤ w.heap.size) (hQ : ∀ w1 w2, Q w1 → Below N w1 w2 → Q w2)
    (hm : ∀ W, Below w.heap.size w W → Calls Tryz.prog 123 #[(.agg cs.toArray)] W fun e w' => e = .returned (.agg nt.toArray) ∧ Q w' ∧ UpT N W w') :
    Calls Tryz.prog 81 #[(.agg cs.toArray)] w fun e w' => e = .returned (.agg nt.toArray) ∧ Q w' ∧ UpT N w w' := by
  have HQ := Lib.hid hQ
  have HM := Lib.hid hm
  have hsz : nt.toArray.size = 19 := by simp [hnl]
  clear hQ hm
  go_enter Tryz.func81, Tryz.ntmps81; go_upto_region 1 with fail; generalize hA : World.alloc w _ = wK; obtain ⟨C, hC⟩ : ∃ C, C = w.heap.size := ⟨_, rfl⟩; have HK : Hid (Below w.heap.size w wK ∧ wK.rangeAt C 0 cs ∧ wK.heap.size = C + 1) := Lib.hid (by rw [← hA, hC]; exact ⟨(Below.refl _ _).alloc (Nat.le_refl _) _, cbox _ _ _, by simp⟩); have HCl : Hid (w.heap.size ≤ C) := Lib.hid (by rw [hC]; exact Nat.le_refl _); rw [← hC]; clear hA hC; generalize hA : World.alloc wK _ = wA; obtain ⟨R, hR⟩ : ∃ R, R = C + 1 := ⟨_, rfl⟩; have HA : Hid (Below w.heap.size w wA ∧ wA.rangeAt C 0 cs ∧ World.there wA R 0 19 ∧ C < R ∧ R < wA.heap.size) := Lib.hid (by rw [← hA, hR, ← HK.out.2.2]; exact ⟨HK.out.1.alloc HK.out.1.size _, range_below HK.out.2.1 ((Below.refl _ _).alloc (Nat.le_refl _) _) (by have := HK.out.2.2; omega), nthere_new _ _ 19 (by rfl) _, by have := HK.out.2.2; omega, by simp⟩); rw [← hR]; clear hA hR
  have q1 := CallC.cell HA.out.2.1 1 _ hc.out.c1
  go_upto_region 25 with fail
  go_wp2_with (first
    | (refine wpList_load_mid (by rfl) _ _ (by rfl) C 0 (by rfl) cs _ HA.out.2.1 Tryz.underlying129 rfl (by rw [hc.out.len]; exact infoCall) ?_)
    | (go_at_call 123; (with_reducible refine (HM.out _ HA.out.1).mono ?_); rintro e w1 ⟨rfl, hq, hu⟩; have H1 := Lib.hid hq; have HU1 := Lib.hid hu; have HT1 : Hid (World.there w1 R 0 19) := Lib.hid (nthere_same HA.out.2.2.1 (hu.2 R (by have := HA.out.2.2.2.1; have := HCl.out; omega) HA.out.2.2.2.2)); clear hq hu)
    | (refine wpList_store_mid (by rfl) _ _ _ (by rfl) R 0 nt.toArray (by rfl) (by rfl) (by rw [hsz]; exact HT1.out) (by rw [hsz]; exact infoNote) (all_one hn1) ?_))
  have hRn : w.heap.size ≤ R := by have := HA.out.2.2.2.1; have := HCl.out; omega
  have HS : Hid (Below w.heap.size w1 (w1.setCells R 0 nt.toArray.toList) ∧ (w1.setCells R 0 nt.toArray.toList).rangeAt R 0 nt) := Lib.hid ⟨nbelow_cells (Below.refl _ _) hRn _ _, World.rangeAt_setCells_same w1 R 0 nt (by rw [hnl]; exact HT1.out)⟩
  have hld := nload hnl HS.out.2
  refine bodyPost_ret (v := (.agg nt.toArray)) (by simp [results, Tryz.results81, Act.put, asAddr, hld]) rfl ⟨rfl, HQ.out _ _ H1.out (HS.out.1.mono hN), ((UpT.below HA.out.1).trans HU1.out).low HS.out.1 (Nat.le_refl _)⟩
end
section
variable {s m d t b f q : Nat} {st : Int}
set_option maxRecDepth 100000 in
set_option maxHeartbeats 2000000 in
theorem oiflive_no (k0 k1 k2 k3 k4 : Int) (w : World) (hl : ∀ W, Below w.heap.size w W → Calls Tryz.prog 21 #[.pointer (some ⟨s, 0, none⟩), (Value.agg #[.int .i64 k0, .int .i64 k1, .int .i64 k2, .int .i64 k3, .int .u32 k4])] W fun e w' => e = .returned (.bool false) ∧ Below W.heap.size W w') :
    Calls Tryz.prog 57 #[.pointer (some ⟨s, 0, none⟩), (Value.agg #[.int .i64 k0, .int .i64 k1, .int .i64 k2, .int .i64 k3, .int .u32 k4])] w fun e w' => e = .returned (Value.agg #[.int .i64 0, .int .i64 0, .int .i64 0, .int .i64 0, .int .u32 0]) ∧ Below w.heap.size w w' := by
  have HL := Lib.hid hl
  clear hl
  go_enter Tryz.func57, Tryz.ntmps57
  go_upto_region 1 with fail
  generalize hA : World.alloc w _ = wK
  obtain ⟨K, hK⟩ : ∃ K, K = w.heap.size := ⟨_, rfl⟩
  have HK : Hid (Below w.heap.size w wK ∧ KeyC wK K k0 k1 k2 k3 k4 ∧ wK.heap.size = K + 1 ∧ w.heap.size ≤ K + 1) := Lib.hid (by rw [← hA, hK]; exact ⟨(Below.refl _ _).alloc (Nat.le_refl _) _, KeyC.new w k0 k1 k2 k3 k4 _, by simp, Nat.le_succ _⟩)
  rw [← hK]
  clear hA hK
  generalize hA : World.alloc wK _ = wA
  obtain ⟨R, hR⟩ : ∃ R, R = K + 1 := ⟨_, rfl⟩
  have HA : Hid (Below w.heap.size w wA ∧ KeyC wA K k0 k1 k2 k3 k4 ∧ KeyC wA R 0 0 0 0 0 ∧ w.heap.size ≤ R) := Lib.hid (by rw [← hA, hR, ← HK.out.2.2.1]; exact ⟨HK.out.1.alloc HK.out.1.size _, HK.out.2.1.below ((Below.refl _ _).alloc (Nat.le_refl _) _), KeyC.new wK 0 0 0 0 0 _, HK.out.1.size⟩)
  rw [← hR]
  clear hA hR
  have q0 := HA.out.2.1.c0; have q1 := HA.out.2.1.c1; have q2 := HA.out.2.1.c2; have q3 := HA.out.2.1.c3; have q4 := HA.out.2.1.c4
  go_wp2_with (first
    | (go_at_call 21; (with_reducible refine (HL.out _ HA.out.1).mono ?_); rintro e w2 ⟨rfl, hb⟩; have H2 : Hid (Below w.heap.size w w2 ∧ KeyC w2 K k0 k1 k2 k3 k4 ∧ KeyC w2 R 0 0 0 0 0) := Lib.hid ⟨HA.out.1.trans (hb.mono HA.out.1.size), HA.out.2.1.below hb, HA.out.2.2.1.below hb⟩; clear hb q0 q1 q2 q3 q4; have q0 := H2.out.2.1.c0; have q1 := H2.out.2.1.c1; have q2 := H2.out.2.1.c2; have q3 := H2.out.2.1.c3; have q4 := H2.out.2.1.c4; have z0 := H2.out.2.2.c0; have z1 := H2.out.2.2.c1; have z2 := H2.out.2.2.c2; have z3 := H2.out.2.2.c3; have z4 := H2.out.2.2.c4; have f0 := H2.out.2.2.fr 0; have f1 := H2.out.2.2.fr 1; have f2 := H2.out.2.2.fr 2; have f3 := H2.out.2.2.fr 3; have f4 := H2.out.2.2.fr 4))
  have t := H2.out.2.2.set 0 0 0 0 0
  have t0 := t.c0
  have t1 := t.c1
  have t2 := t.c2
  have t3 := t.c3
  have t4 := t.c4
  refine bodyPost_ret (v := Value.agg #[.int .i64 0, .int .i64 0, .int .i64 0, .int .i64 0, .int .u32 0]) (by simp [results, Tryz.results57, go_sem, t0, t1, t2, t3, t4]) rfl ⟨rfl, ?_⟩
  have hR := HA.out.2.2.2
  exact ((((H2.out.1.setCell hR _).setCell hR _).setCell hR _).setCell hR _).setCell hR _
set_option maxRecDepth 100000 in
set_option maxHeartbeats 4000000 in
theorem skey_maker (x v : Int) (p0 : Nat) (w : World) (hB : SyB w s m d t b f q st) (hP : w.cell? ⟨f, 0, none⟩ = some (.pointer (some ⟨p0, 0, none⟩)))
    (hV : ∀ W, Below w.heap.size w W → Calls Tryz.prog 58 #[.pointer (some ⟨p0, 0, none⟩), .int .i64 x] W fun e w' => e = .returned (.int .i64 v) ∧ W = w')
    (hL : ∀ W, Below w.heap.size w W → Calls Tryz.prog 21 #[.pointer (some ⟨s, 0, none⟩), .agg #[.int .i64 9, .int .i64 x, .int .i64 v, .int .i64 0, .int .u32 0]] W fun e w' => e = .returned (.bool true) ∧ Below W.heap.size W w') :
    Calls Tryz.prog 16 #[.pointer (some ⟨s, 0, none⟩), .int .i64 9, .int .i64 x] w fun e w' => e = .returned (.agg #[.int .i64 9, .int .i64 x, .int .i64 v, .int .i64 0, .int .u32 0]) ∧ Below w.heap.size w w' := by
  have HV := Lib.hid hV
  have HL := Lib.hid hL
  have HB := Lib.hid hB
  have HP := Lib.hid (⟨cell_lt hP, hP⟩ : f < w.heap.size ∧ w.cell? ⟨f, 0, none⟩ = some (.pointer (some ⟨p0, 0, none⟩)))
  clear hV hL hB hP
  go_enter Tryz.func16, Tryz.ntmps16
  go_upto_region 1 with fail
  generalize hA : World.alloc w _ = wA
  obtain ⟨K, hK⟩ : ∃ K, K = w.heap.size := ⟨_, rfl⟩
  have HBa : Hid (Below w.heap.size w wA) := Lib.hid (by rw [← hA]; exact (Below.refl _ _).alloc (Nat.le_refl _) _)
  have HK0 : Hid (KeyC wA K 0 0 0 0 0) := Lib.hid (by rw [← hA, hK]; exact KeyC.new w 0 0 0 0 0 _)
  have HKl : Hid (w.heap.size ≤ K) := Lib.hid (by rw [hK]; exact Nat.le_refl _)
  have sc := ((HB.out.below HBa.out).c4)
  have pc := (HBa.out.cell (p := ⟨f, 0, none⟩) HP.out.1).trans HP.out.2
  rw [← hK]
  clear hA hK
  go_wp2_with (first
    | (go_at_call 58; (with_reducible refine (HV.out _ HBa.out).mono ?_); rintro e w1 ⟨rfl, rfl⟩)
    | (go_at_call 57; (with_reducible refine (oiflive_yes 9 x v 0 0 _ (fun W hW => HL.out W (HBa.out.trans (hW.mono HBa.out.size)))).mono ?_); rintro e w1 ⟨rfl, hb⟩; have HB1 := Lib.hid (HBa.out.trans (hb.mono HBa.out.size)); have HK1 := Lib.hid (HK0.out.below hb); clear hb; have z0 := HK1.out.c0; have z1 := HK1.out.c1; have z2 := HK1.out.c2; have z3 := HK1.out.c3; have z4 := HK1.out.c4; have f0 := HK1.out.fr 0; have f1 := HK1.out.fr 1; have f2 := HK1.out.fr 2; have f3 := HK1.out.fr 3; have f4 := HK1.out.fr 4))
  have t := HK1.out.set 9 x v 0 0
  have t0 := t.c0
  have t1 := t.c1
  have t2 := t.c2
  have t3 := t.c3
  have t4 := t.c4
  refine bodyPost_ret (v := .agg #[.int .i64 9, .int .i64 x, .int .i64 v, .int .i64 0, .int .u32 0]) (by simp [results, Tryz.results16, go_sem, t0, t1, t2, t3, t4]) rfl ⟨rfl, ?_⟩
  exact ((((HB1.out.setCell HKl.out _).setCell HKl.out _).setCell HKl.out _).setCell HKl.out _).setCell HKl.out _
set_option maxRecDepth 100000 in
set_option maxHeartbeats 4000000 in
theorem skey_builder (x v : Int) (p0 : Nat) (w : World) (hB : SyB w s m d t b f q st) (hP : w.cell? ⟨f, 0, none⟩ = some (.pointer (some ⟨p0, 0, none⟩)))
    (hV : ∀ W, Below w.heap.size w W → Calls Tryz.prog 58 #[.pointer (some ⟨p0, 0, none⟩), .int .i64 x] W fun e w' => e = .returned (.int .i64 v) ∧ W = w')
    (hL : ∀ W, Below w.heap.size w W → Calls Tryz.prog 21 #[.pointer (some ⟨s, 0, none⟩), .agg #[.int .i64 10, .int .i64 x, .int .i64 v, .int .i64 0, .int .u32 0]] W fun e w' => e = .returned (.bool true) ∧ Below W.heap.size W w') :
    Calls Tryz.prog 16 #[.pointer (some ⟨s, 0, none⟩), .int .i64 10, .int .i64 x] w fun e w' => e = .returned (.agg #[.int .i64 10, .int .i64 x, .int .i64 v, .int .i64 0, .int .u32 0]) ∧ Below w.heap.size w w' := by
  have HV := Lib.hid hV
  have HL := Lib.hid hL
  have HB := Lib.hid hB
  have HP := Lib.hid (⟨cell_lt hP, hP⟩ : f < w.heap.size ∧ w.cell? ⟨f, 0, none⟩ = some (.pointer (some ⟨p0, 0, none⟩)))
  clear hV hL hB hP
  go_enter Tryz.func16, Tryz.ntmps16
  go_upto_region 1 with fail
  generalize hA : World.alloc w _ = wA
  obtain ⟨K, hK⟩ : ∃ K, K = w.heap.size := ⟨_, rfl⟩
  have HBa : Hid (Below w.heap.size w wA) := Lib.hid (by rw [← hA]; exact (Below.refl _ _).alloc (Nat.le_refl _) _)
  have HK0 : Hid (KeyC wA K 0 0 0 0 0) := Lib.hid (by rw [← hA, hK]; exact KeyC.new w 0 0 0 0 0 _)
  have HKl : Hid (w.heap.size ≤ K) := Lib.hid (by rw [hK]; exact Nat.le_refl _)
  have sc := ((HB.out.below HBa.out).c4)
  have pc := (HBa.out.cell (p := ⟨f, 0, none⟩) HP.out.1).trans HP.out.2
  rw [← hK]
  clear hA hK
  go_wp2_with (first
    | (go_at_call 58; (with_reducible refine (HV.out _ HBa.out).mono ?_); rintro e w1 ⟨rfl, rfl⟩)
    | (go_at_call 57; (with_reducible refine (oiflive_yes 10 x v 0 0 _ (fun W hW => HL.out W (HBa.out.trans (hW.mono HBa.out.size)))).mono ?_); rintro e w1 ⟨rfl, hb⟩; have HB1 := Lib.hid (HBa.out.trans (hb.mono HBa.out.size)); have HK1 := Lib.hid (HK0.out.below hb); clear hb; have z0 := HK1.out.c0; have z1 := HK1.out.c1; have z2 := HK1.out.c2; have z3 := HK1.out.c3; have z4 := HK1.out.c4; have f0 := HK1.out.fr 0; have f1 := HK1.out.fr 1; have f2 := HK1.out.fr 2; have f3 := HK1.out.fr 3; have f4 := HK1.out.fr 4))
  have t := HK1.out.set 10 x v 0 0
  have t0 := t.c0
  have t1 := t.c1
  have t2 := t.c2
  have t3 := t.c3
  have t4 := t.c4
  refine bodyPost_ret (v := .agg #[.int .i64 10, .int .i64 x, .int .i64 v, .int .i64 0, .int .u32 0]) (by simp [results, Tryz.results16, go_sem, t0, t1, t2, t3, t4]) rfl ⟨rfl, ?_⟩
  exact ((((HB1.out.setCell HKl.out _).setCell HKl.out _).setCell HKl.out _).setCell HKl.out _).setCell HKl.out _
set_option maxRecDepth 100000 in
set_option maxHeartbeats 4000000 in
theorem skey_maker_no (x v : Int) (p0 : Nat) (w : World) (hB : SyB w s m d t b f q st) (hP : w.cell? ⟨f, 0, none⟩ = some (.pointer (some ⟨p0, 0, none⟩)))
    (hV : ∀ W, Below w.heap.size w W → Calls Tryz.prog 58 #[.pointer (some ⟨p0, 0, none⟩), .int .i64 x] W fun e w' => e = .returned (.int .i64 v) ∧ W = w')
    (hL : ∀ W, Below w.heap.size w W → Calls Tryz.prog 21 #[.pointer (some ⟨s, 0, none⟩), .agg #[.int .i64 9, .int .i64 x, .int .i64 v, .int .i64 0, .int .u32 0]] W fun e w' => e = .returned (.bool false) ∧ Below W.heap.size W w') :
    Calls Tryz.prog 16 #[.pointer (some ⟨s, 0, none⟩), .int .i64 9, .int .i64 x] w fun e w' => e = .returned (.agg #[.int .i64 0, .int .i64 0, .int .i64 0, .int .i64 0, .int .u32 0]) ∧ Below w.heap.size w w' := by
  have HV := Lib.hid hV
  have HL := Lib.hid hL
  have HB := Lib.hid hB
  have HP := Lib.hid (⟨cell_lt hP, hP⟩ : f < w.heap.size ∧ w.cell? ⟨f, 0, none⟩ = some (.pointer (some ⟨p0, 0, none⟩)))
  clear hV hL hB hP
  go_enter Tryz.func16, Tryz.ntmps16
  go_upto_region 1 with fail
  generalize hA : World.alloc w _ = wA
  obtain ⟨K, hK⟩ : ∃ K, K = w.heap.size := ⟨_, rfl⟩
  have HBa : Hid (Below w.heap.size w wA) := Lib.hid (by rw [← hA]; exact (Below.refl _ _).alloc (Nat.le_refl _) _)
  have HK0 : Hid (KeyC wA K 0 0 0 0 0) := Lib.hid (by rw [← hA, hK]; exact KeyC.new w 0 0 0 0 0 _)
  have HKl : Hid (w.heap.size ≤ K) := Lib.hid (by rw [hK]; exact Nat.le_refl _)
  have sc := ((HB.out.below HBa.out).c4)
  have pc := (HBa.out.cell (p := ⟨f, 0, none⟩) HP.out.1).trans HP.out.2
  rw [← hK]
  clear hA hK
  go_wp2_with (first
    | (go_at_call 58; (with_reducible refine (HV.out _ HBa.out).mono ?_); rintro e w1 ⟨rfl, rfl⟩)
    | (go_at_call 57; (with_reducible refine (oiflive_no 9 x v 0 0 _ (fun W hW => HL.out W (HBa.out.trans (hW.mono HBa.out.size)))).mono ?_); rintro e w1 ⟨rfl, hb⟩; have HB1 := Lib.hid (HBa.out.trans (hb.mono HBa.out.size)); have HK1 := Lib.hid (HK0.out.below hb); clear hb; have z0 := HK1.out.c0; have z1 := HK1.out.c1; have z2 := HK1.out.c2; have z3 := HK1.out.c3; have z4 := HK1.out.c4; have f0 := HK1.out.fr 0; have f1 := HK1.out.fr 1; have f2 := HK1.out.fr 2; have f3 := HK1.out.fr 3; have f4 := HK1.out.fr 4))
  have t := HK1.out.set 0 0 0 0 0
  have t0 := t.c0
  have t1 := t.c1
  have t2 := t.c2
  have t3 := t.c3
  have t4 := t.c4
  refine bodyPost_ret (v := .agg #[.int .i64 0, .int .i64 0, .int .i64 0, .int .i64 0, .int .u32 0]) (by simp [results, Tryz.results16, go_sem, t0, t1, t2, t3, t4]) rfl ⟨rfl, ?_⟩
  exact ((((HB1.out.setCell HKl.out _).setCell HKl.out _).setCell HKl.out _).setCell HKl.out _).setCell HKl.out _
set_option maxRecDepth 100000 in
set_option maxHeartbeats 4000000 in
theorem slive_maker (k1 k2 k3 k4 : Int) (dp dR n c base : Nat) (th : Nat → Bool) (vr : Nat → Int) (sd : Bool) (hr : Hid ((thereB n th k1 && (vr k1.toNat == k2)) = true)) (w : World) (hB : SyB w s m d t b f q st) (hP : w.cell? ⟨f, 0, none⟩ = some (.pointer (some ⟨dp, 0, none⟩))) (hA : ArAt w base dp dR n c th vr) (hS : ∀ W, Below w.heap.size w W → Calls Tryz.prog 69 #[.pointer (some ⟨f, 0, none⟩), .int .i64 k1] W fun e w' => e = .returned (.bool sd) ∧ W = w') :
    Calls Tryz.prog 21 #[.pointer (some ⟨s, 0, none⟩), .agg #[.int .i64 9, .int .i64 k1, .int .i64 k2, .int .i64 k3, .int .u32 k4]] w fun e w' => e = .returned (.bool sd) ∧ Below w.heap.size w w' := by
  have HA := Lib.hid (fun W (hW : Below w.heap.size w W) => alive_is k1 k2 true hr W (hA.below hW))
  have HB := Lib.hid hB
  have HSd := Lib.hid hS
  have HP := Lib.hid hP
  have hdl : f < w.heap.size := cell_lt hP
  clear hA hB hP hS
  go_enter Tryz.func21, Tryz.ntmps21
  go_upto_region 1 with fail
  generalize hA : World.alloc w _ = wA
  obtain ⟨K, hK⟩ : ∃ K, K = w.heap.size := ⟨_, rfl⟩
  have HBa : Hid (Below w.heap.size w wA) := Lib.hid (by rw [← hA]; exact (Below.refl _ _).alloc (Nat.le_refl _) _)
  have kc0 : wA.cell? ⟨K, 0, none⟩ = some (.int .i64 9) := by rw [← hA, hK]; simp
  have kc1 : wA.cell? ⟨K, 1, none⟩ = some (.int .i64 k1) := by rw [← hA, hK]; simp
  have kc2 : wA.cell? ⟨K, 2, none⟩ = some (.int .i64 k2) := by rw [← hA, hK]; simp
  have sc := ((HB.out.below HBa.out).c4)
  have pc := (HBa.out.cell (p := ⟨f, 0, none⟩) hdl).trans HP.out
  rw [← hK]
  clear hA hK hdl
  go_wp2_with fail
  have HA9 := Lib.hid (fun n => HA.out (wA.drewN n) (below_drewN HBa.out n))
  have HS9 := Lib.hid (fun n => HSd.out (wA.drewN n) (below_drewN HBa.out n))
  go_quiet ((first | (go_at_call 67; exact kquiet_left (HA9.out _)) | (go_at_call 69; exact kquiet_left (HS9.out _))))
  go_wp2_with fail
  go_ret
  exact ⟨rfl, below_drewN HBa.out _⟩
set_option maxRecDepth 100000 in
set_option maxHeartbeats 4000000 in
theorem slive_builder (k1 k2 k3 k4 : Int) (dp dR n c base : Nat) (th : Nat → Bool) (vr : Nat → Int) (sd : Bool) (hr : Hid ((thereB n th k1 && (vr k1.toNat == k2)) = true)) (w : World) (hB : SyB w s m d t b f q st) (hP : w.cell? ⟨f, 0, none⟩ = some (.pointer (some ⟨dp, 0, none⟩))) (hA : ArAt w base dp dR n c th vr) (hS : ∀ W, Below w.heap.size w W → Calls Tryz.prog 69 #[.pointer (some ⟨f, 0, none⟩), .int .i64 k1] W fun e w' => e = .returned (.bool sd) ∧ W = w') :
    Calls Tryz.prog 21 #[.pointer (some ⟨s, 0, none⟩), .agg #[.int .i64 10, .int .i64 k1, .int .i64 k2, .int .i64 k3, .int .u32 k4]] w fun e w' => e = .returned (.bool (!sd)) ∧ Below w.heap.size w w' := by
  have HA := Lib.hid (fun W (hW : Below w.heap.size w W) => alive_is k1 k2 true hr W (hA.below hW))
  have HB := Lib.hid hB
  have HSd := Lib.hid hS
  have HP := Lib.hid hP
  have hdl : f < w.heap.size := cell_lt hP
  clear hA hB hP hS
  go_enter Tryz.func21, Tryz.ntmps21
  go_upto_region 1 with fail
  generalize hA : World.alloc w _ = wA
  obtain ⟨K, hK⟩ : ∃ K, K = w.heap.size := ⟨_, rfl⟩
  have HBa : Hid (Below w.heap.size w wA) := Lib.hid (by rw [← hA]; exact (Below.refl _ _).alloc (Nat.le_refl _) _)
  have kc0 : wA.cell? ⟨K, 0, none⟩ = some (.int .i64 10) := by rw [← hA, hK]; simp
  have kc1 : wA.cell? ⟨K, 1, none⟩ = some (.int .i64 k1) := by rw [← hA, hK]; simp
  have kc2 : wA.cell? ⟨K, 2, none⟩ = some (.int .i64 k2) := by rw [← hA, hK]; simp
  have sc := ((HB.out.below HBa.out).c4)
  have pc := (HBa.out.cell (p := ⟨f, 0, none⟩) hdl).trans HP.out
  rw [← hK]
  clear hA hK hdl
  go_wp2_with fail
  have HA9 := Lib.hid (fun n => HA.out (wA.drewN n) (below_drewN HBa.out n))
  have HS9 := Lib.hid (fun n => HSd.out (wA.drewN n) (below_drewN HBa.out n))
  go_quiet ((first | (go_at_call 67; exact kquiet_left (HA9.out _)) | (go_at_call 69; exact kquiet_left (HS9.out _))))
  go_wp2_with fail
  go_ret
  exact ⟨rfl, below_drewN HBa.out _⟩
end
end Go.Proofs.YtncopdhhchmpeaaGreatDoor
namespace Go.Proofs.YtncopdhhchmpeaaGreatDoor
open Go.ChangeShapes Go.WideShapes Go.ChangeAt Go.RowKit Go.Maps
set_option linter.unusedVariables false
/-- Numbers are read there. -/
def RI (w : World) (a : Option Addr) (xs : List Int) : Prop := ∀ i, i < xs.length → ∃ ad, a = some ad ∧ ad.block < w.heap.size ∧ w.cell? (ad.add i) = some (.int .i64 (xs.getD i 0))
theorem RI.below {w w' : World} {a : Option Addr} {xs : List Int} (h : RI w a xs) (hb : Below w.heap.size w w') : RI w' a xs := by
  intro i hi
  obtain ⟨ad, h1, h2, h3⟩ := h i hi
  exact ⟨ad, h1, Nat.lt_of_lt_of_le h2 hb.size, (hb.cell (p := ad.add i) (by rw [add_block']; exact h2)).trans h3⟩
theorem below_dN {w w' : World} {B : Nat} (h : Below B w w') (n : Nat) : Below B w (w'.drewN n) := ⟨h.os, h.tape, h.output, h.size, h.block⟩
set_option maxRecDepth 100000 in
theorem sameints_yes (a b : Option Addr) (ca cb n : Nat) (xs : List Int) (hn : Hid (xs.length = n)) (hm : n ≤ 1000000) (w : World) (hx : RI w a xs) (hy : RI w b xs) :
    Calls Tryz.prog 29 #[.slice a n ca, .slice b n cb] w fun e w' => e = .returned (.bool true) ∧ Below w.heap.size w w' := by
  have HX := Lib.hid hx
  have HY := Lib.hid hy
  clear hx hy
  go_enter Tryz.func29, Tryz.ntmps29
  go_wp2_with fail
  go_loopw [5] (fun i wr => ∃ k : Nat, k ≤ n ∧ i = .int .i64 k ∧ Below w.heap.size w wr) (fun i _ => n - (intOf i).toNat)
  case atStart => exact ⟨0, by omega, rfl, Below.refl _ _⟩
  case round =>
    obtain ⟨k, hk, rfl, hb⟩ := hrel
    have HB := Lib.hid hb
    by_cases hlt : k < n
    · obtain ⟨ad, rfl, h1, c1⟩ := (HX.out.below hb) k (by rw [hn.out]; exact hlt)
      obtain ⟨bd, rfl, h2, c2⟩ := (HY.out.below hb) k (by rw [hn.out]; exact hlt)
      generalize xs.getD k 0 = x at c1 c2
      have k0 : (0 : Int) ≤ (k : Int) := by omega
      have k1 : (k : Int) < (n : Int) := by omega
      clear hb h1 h2
      go_wp2_with fail
      go_quiet (fail)
      go_wp2
      go_roundw
      case rel => exact ⟨k + 1, by omega, by go_num, below_dN HB.out _⟩
      case measure => simp [intOf]; omega
    · obtain rfl : n = k := by omega
      have hdd : decide (n < n) = false := by simp
      clear hb
      go_wp2_with fail
      go_ret
      exact ⟨rfl, HB.out⟩
end Go.Proofs.YtncopdhhchmpeaaGreatDoor
namespace Go.Proofs.YtncopdhhchmpeaaGreatDoor
open Go.ChangeShapes Go.WideShapes Go.ChangeAt Go.RowKit
set_option linter.unusedVariables false
set_option linter.unusedSimpArgs false
section
variable {s m d t b f q : Nat} {st : Int}
set_option maxRecDepth 100000 in
set_option maxHeartbeats 4000000 in
theorem skey_node (x k0 k1 k2 k3 k4 : Int) (w : World) (hB : SyB w s m d t b f q st) (S : Nat) (hP : w.cell? ⟨m, 0, none⟩ = some (.pointer (some ⟨S, 0, none⟩))) (hC : ∀ W, Below w.heap.size w W → Calls Tryz.prog 53 #[.pointer (some ⟨S, 0, none⟩), .int .i64 x, .int .i64 0] W fun e w' => e = .returned (.agg #[.int .i64 k0, .int .i64 k1, .int .i64 k2, .int .i64 k3, .int .u32 k4]) ∧ Below W.heap.size W w') :
    Calls Tryz.prog 16 #[.pointer (some ⟨s, 0, none⟩), .int .i64 2, .int .i64 x] w fun e w' => e = .returned (.agg #[.int .i64 k0, .int .i64 k1, .int .i64 k2, .int .i64 k3, .int .u32 k4]) ∧ Below w.heap.size w w' := by
  have HC := Lib.hid hC
  have HB := Lib.hid hB
  have HP := Lib.hid (⟨cell_lt hP, hP⟩ : m < w.heap.size ∧ w.cell? ⟨m, 0, none⟩ = some (.pointer (some ⟨S, 0, none⟩)))
  clear hC hB hP
  go_enter Tryz.func16, Tryz.ntmps16
  go_upto_region 1 with fail
  generalize hA : World.alloc w _ = wA
  obtain ⟨K, hK⟩ : ∃ K, K = w.heap.size := ⟨_, rfl⟩
  have HBa : Hid (Below w.heap.size w wA) := Lib.hid (by rw [← hA]; exact (Below.refl _ _).alloc (Nat.le_refl _) _)
  have HK0 : Hid (KeyC wA K 0 0 0 0 0) := Lib.hid (by rw [← hA, hK]; exact KeyC.new w 0 0 0 0 0 _)
  have HKl : Hid (w.heap.size ≤ K) := Lib.hid (by rw [hK]; exact Nat.le_refl _)
  have sc := ((HB.out.below HBa.out).c0)
  have pc := (HBa.out.cell (p := ⟨m, 0, none⟩) HP.out.1).trans HP.out.2
  rw [← hK]
  clear hA hK
  go_wp2_with (first
    | (go_at_call 53; (with_reducible refine (HC.out _ HBa.out).mono ?_); rintro e w1 ⟨rfl, hb⟩; have HB1 := Lib.hid (HBa.out.trans (hb.mono HBa.out.size)); have HK1 := Lib.hid (HK0.out.below hb); have z0 := HK1.out.c0; have z1 := HK1.out.c1; have z2 := HK1.out.c2; have z3 := HK1.out.c3; have z4 := HK1.out.c4; have zf0 := HK1.out.fr 0; have zf1 := HK1.out.fr 1; have zf2 := HK1.out.fr 2; have zf3 := HK1.out.fr 3; have zf4 := HK1.out.fr 4; clear hb))
  have t := HK1.out.set k0 k1 k2 k3 k4
  have t0 := t.c0
  have t1 := t.c1
  have t2 := t.c2
  have t3 := t.c3
  have t4 := t.c4
  refine bodyPost_ret (v := .agg #[.int .i64 k0, .int .i64 k1, .int .i64 k2, .int .i64 k3, .int .u32 k4]) (by simp [results, Tryz.results16, go_sem, t0, t1, t2, t3, t4]) rfl ⟨rfl, ?_⟩
  exact ((((HB1.out.setCell HKl.out _).setCell HKl.out _).setCell HKl.out _).setCell HKl.out _).setCell HKl.out _
set_option maxRecDepth 100000 in
set_option maxHeartbeats 4000000 in
theorem skey_page (x k0 k1 k2 k3 k4 : Int) (w : World) (hB : SyB w s m d t b f q st) (S : Nat) (hP : w.cell? ⟨m, 0, none⟩ = some (.pointer (some ⟨S, 0, none⟩))) (hC : ∀ W, Below w.heap.size w W → Calls Tryz.prog 54 #[.pointer (some ⟨S, 0, none⟩), .int .i64 x] W fun e w' => e = .returned (.agg #[.int .i64 k0, .int .i64 k1, .int .i64 k2, .int .i64 k3, .int .u32 k4]) ∧ Below W.heap.size W w') :
    Calls Tryz.prog 16 #[.pointer (some ⟨s, 0, none⟩), .int .i64 3, .int .i64 x] w fun e w' => e = .returned (.agg #[.int .i64 k0, .int .i64 k1, .int .i64 k2, .int .i64 k3, .int .u32 k4]) ∧ Below w.heap.size w w' := by
  have HC := Lib.hid hC
  have HB := Lib.hid hB
  have HP := Lib.hid (⟨cell_lt hP, hP⟩ : m < w.heap.size ∧ w.cell? ⟨m, 0, none⟩ = some (.pointer (some ⟨S, 0, none⟩)))
  clear hC hB hP
  go_enter Tryz.func16, Tryz.ntmps16
  go_upto_region 1 with fail
  generalize hA : World.alloc w _ = wA
  obtain ⟨K, hK⟩ : ∃ K, K = w.heap.size := ⟨_, rfl⟩
  have HBa : Hid (Below w.heap.size w wA) := Lib.hid (by rw [← hA]; exact (Below.refl _ _).alloc (Nat.le_refl _) _)
  have HK0 : Hid (KeyC wA K 0 0 0 0 0) := Lib.hid (by rw [← hA, hK]; exact KeyC.new w 0 0 0 0 0 _)
  have HKl : Hid (w.heap.size ≤ K) := Lib.hid (by rw [hK]; exact Nat.le_refl _)
  have sc := ((HB.out.below HBa.out).c0)
  have pc := (HBa.out.cell (p := ⟨m, 0, none⟩) HP.out.1).trans HP.out.2
  rw [← hK]
  clear hA hK
  go_wp2_with (first
    | (go_at_call 54; (with_reducible refine (HC.out _ HBa.out).mono ?_); rintro e w1 ⟨rfl, hb⟩; have HB1 := Lib.hid (HBa.out.trans (hb.mono HBa.out.size)); have HK1 := Lib.hid (HK0.out.below hb); have z0 := HK1.out.c0; have z1 := HK1.out.c1; have z2 := HK1.out.c2; have z3 := HK1.out.c3; have z4 := HK1.out.c4; have zf0 := HK1.out.fr 0; have zf1 := HK1.out.fr 1; have zf2 := HK1.out.fr 2; have zf3 := HK1.out.fr 3; have zf4 := HK1.out.fr 4; clear hb))
  have t := HK1.out.set k0 k1 k2 k3 k4
  have t0 := t.c0
  have t1 := t.c1
  have t2 := t.c2
  have t3 := t.c3
  have t4 := t.c4
  refine bodyPost_ret (v := .agg #[.int .i64 k0, .int .i64 k1, .int .i64 k2, .int .i64 k3, .int .u32 k4]) (by simp [results, Tryz.results16, go_sem, t0, t1, t2, t3, t4]) rfl ⟨rfl, ?_⟩
  exact ((((HB1.out.setCell HKl.out _).setCell HKl.out _).setCell HKl.out _).setCell HKl.out _).setCell HKl.out _

set_option maxRecDepth 100000 in
set_option maxHeartbeats 4000000 in
theorem skey_void (s : Nat) (k : Int) (x : Int) (hk : k = 0 ∨ k = 1 ∨ k = 5) (w : World) : Calls Tryz.prog 16 #[.pointer (some ⟨s, 0, none⟩), .int .i64 k, .int .i64 x] w fun e w' => e = .returned (.agg #[.int .i64 0, .int .i64 0, .int .i64 0, .int .i64 0, .int .u32 0]) ∧ Below w.heap.size w w' := by
  rcases hk with rfl | rfl | rfl
  · go_enter Tryz.func16, Tryz.ntmps16; go_upto_region 1 with fail; generalize hA : World.alloc w _ = wA; obtain ⟨K, hK⟩ : ∃ K, K = w.heap.size := ⟨_, rfl⟩; have HBa : Hid (Below w.heap.size w wA) := (Lib.hid (by rw [← hA]; exact (Below.refl _ _).alloc (Nat.le_refl _) _)); have HK0 : Hid (KeyC wA K 0 0 0 0 0) := (Lib.hid (by rw [← hA, hK]; exact KeyC.new w 0 0 0 0 0 _)); have HKl : Hid (w.heap.size ≤ K) := (Lib.hid (by rw [hK]; exact Nat.le_refl _)); rw [← hK]; clear hA hK; have z0 := HK0.out.c0; have z1 := HK0.out.c1; have z2 := HK0.out.c2; have z3 := HK0.out.c3; have z4 := HK0.out.c4; have f0 := HK0.out.fr 0; have f1 := HK0.out.fr 1; have f2 := HK0.out.fr 2; have f3 := HK0.out.fr 3; have f4 := HK0.out.fr 4; go_wp2_with fail; have t := HK0.out.set 0 0 0 0 0; have t0 := t.c0; have t1 := t.c1; have t2 := t.c2; have t3 := t.c3; have t4 := t.c4; refine bodyPost_ret (v := .agg #[.int .i64 0, .int .i64 0, .int .i64 0, .int .i64 0, .int .u32 0]) (by simp [results, Tryz.results16, go_sem, t0, t1, t2, t3, t4]) rfl ⟨rfl, ?_⟩; exact ((((HBa.out.setCell HKl.out _).setCell HKl.out _).setCell HKl.out _).setCell HKl.out _).setCell HKl.out _
  · go_enter Tryz.func16, Tryz.ntmps16; go_upto_region 1 with fail; generalize hA : World.alloc w _ = wA; obtain ⟨K, hK⟩ : ∃ K, K = w.heap.size := ⟨_, rfl⟩; have HBa : Hid (Below w.heap.size w wA) := (Lib.hid (by rw [← hA]; exact (Below.refl _ _).alloc (Nat.le_refl _) _)); have HK0 : Hid (KeyC wA K 0 0 0 0 0) := (Lib.hid (by rw [← hA, hK]; exact KeyC.new w 0 0 0 0 0 _)); have HKl : Hid (w.heap.size ≤ K) := (Lib.hid (by rw [hK]; exact Nat.le_refl _)); rw [← hK]; clear hA hK; have z0 := HK0.out.c0; have z1 := HK0.out.c1; have z2 := HK0.out.c2; have z3 := HK0.out.c3; have z4 := HK0.out.c4; have f0 := HK0.out.fr 0; have f1 := HK0.out.fr 1; have f2 := HK0.out.fr 2; have f3 := HK0.out.fr 3; have f4 := HK0.out.fr 4; go_wp2_with fail; have t := HK0.out.set 0 0 0 0 0; have t0 := t.c0; have t1 := t.c1; have t2 := t.c2; have t3 := t.c3; have t4 := t.c4; refine bodyPost_ret (v := .agg #[.int .i64 0, .int .i64 0, .int .i64 0, .int .i64 0, .int .u32 0]) (by simp [results, Tryz.results16, go_sem, t0, t1, t2, t3, t4]) rfl ⟨rfl, ?_⟩; exact ((((HBa.out.setCell HKl.out _).setCell HKl.out _).setCell HKl.out _).setCell HKl.out _).setCell HKl.out _
  · go_enter Tryz.func16, Tryz.ntmps16; go_upto_region 1 with fail; generalize hA : World.alloc w _ = wA; obtain ⟨K, hK⟩ : ∃ K, K = w.heap.size := ⟨_, rfl⟩; have HBa : Hid (Below w.heap.size w wA) := (Lib.hid (by rw [← hA]; exact (Below.refl _ _).alloc (Nat.le_refl _) _)); have HK0 : Hid (KeyC wA K 0 0 0 0 0) := (Lib.hid (by rw [← hA, hK]; exact KeyC.new w 0 0 0 0 0 _)); have HKl : Hid (w.heap.size ≤ K) := (Lib.hid (by rw [hK]; exact Nat.le_refl _)); rw [← hK]; clear hA hK; have z0 := HK0.out.c0; have z1 := HK0.out.c1; have z2 := HK0.out.c2; have z3 := HK0.out.c3; have z4 := HK0.out.c4; have f0 := HK0.out.fr 0; have f1 := HK0.out.fr 1; have f2 := HK0.out.fr 2; have f3 := HK0.out.fr 3; have f4 := HK0.out.fr 4; go_wp2_with fail; have t := HK0.out.set 0 0 0 0 0; have t0 := t.c0; have t1 := t.c1; have t2 := t.c2; have t3 := t.c3; have t4 := t.c4; refine bodyPost_ret (v := .agg #[.int .i64 0, .int .i64 0, .int .i64 0, .int .i64 0, .int .u32 0]) (by simp [results, Tryz.results16, go_sem, t0, t1, t2, t3, t4]) rfl ⟨rfl, ?_⟩; exact ((((HBa.out.setCell HKl.out _).setCell HKl.out _).setCell HKl.out _).setCell HKl.out _).setCell HKl.out _
set_option maxRecDepth 100000 in
set_option maxHeartbeats 4000000 in
theorem skey_plain (s : Nat) (k : Int) (x : Int) (hk : k = 11 ∨ k = 12 ∨ k = 13 ∨ k = 14) (w : World) : Calls Tryz.prog 16 #[.pointer (some ⟨s, 0, none⟩), .int .i64 k, .int .i64 x] w fun e w' => e = .returned (.agg #[.int .i64 k, .int .i64 0, .int .i64 0, .int .i64 0, .int .u32 0]) ∧ Below w.heap.size w w' := by
  rcases hk with rfl | rfl | rfl | rfl
  · go_enter Tryz.func16, Tryz.ntmps16; go_upto_region 1 with fail; generalize hA : World.alloc w _ = wA; obtain ⟨K, hK⟩ : ∃ K, K = w.heap.size := ⟨_, rfl⟩; have HBa : Hid (Below w.heap.size w wA) := (Lib.hid (by rw [← hA]; exact (Below.refl _ _).alloc (Nat.le_refl _) _)); have HK0 : Hid (KeyC wA K 0 0 0 0 0) := (Lib.hid (by rw [← hA, hK]; exact KeyC.new w 0 0 0 0 0 _)); have HKl : Hid (w.heap.size ≤ K) := (Lib.hid (by rw [hK]; exact Nat.le_refl _)); rw [← hK]; clear hA hK; have z0 := HK0.out.c0; have z1 := HK0.out.c1; have z2 := HK0.out.c2; have z3 := HK0.out.c3; have z4 := HK0.out.c4; have f0 := HK0.out.fr 0; have f1 := HK0.out.fr 1; have f2 := HK0.out.fr 2; have f3 := HK0.out.fr 3; have f4 := HK0.out.fr 4; go_wp2_with fail; have t := HK0.out.set 11 0 0 0 0; have t0 := t.c0; have t1 := t.c1; have t2 := t.c2; have t3 := t.c3; have t4 := t.c4; refine bodyPost_ret (v := .agg #[.int .i64 11, .int .i64 0, .int .i64 0, .int .i64 0, .int .u32 0]) (by simp [results, Tryz.results16, go_sem, t0, t1, t2, t3, t4]) rfl ⟨rfl, ?_⟩; exact ((((HBa.out.setCell HKl.out _).setCell HKl.out _).setCell HKl.out _).setCell HKl.out _).setCell HKl.out _
  · go_enter Tryz.func16, Tryz.ntmps16; go_upto_region 1 with fail; generalize hA : World.alloc w _ = wA; obtain ⟨K, hK⟩ : ∃ K, K = w.heap.size := ⟨_, rfl⟩; have HBa : Hid (Below w.heap.size w wA) := (Lib.hid (by rw [← hA]; exact (Below.refl _ _).alloc (Nat.le_refl _) _)); have HK0 : Hid (KeyC wA K 0 0 0 0 0) := (Lib.hid (by rw [← hA, hK]; exact KeyC.new w 0 0 0 0 0 _)); have HKl : Hid (w.heap.size ≤ K) := (Lib.hid (by rw [hK]; exact Nat.le_refl _)); rw [← hK]; clear hA hK; have z0 := HK0.out.c0; have z1 := HK0.out.c1; have z2 := HK0.out.c2; have z3 := HK0.out.c3; have z4 := HK0.out.c4; have f0 := HK0.out.fr 0; have f1 := HK0.out.fr 1; have f2 := HK0.out.fr 2; have f3 := HK0.out.fr 3; have f4 := HK0.out.fr 4; go_wp2_with fail; have t := HK0.out.set 12 0 0 0 0; have t0 := t.c0; have t1 := t.c1; have t2 := t.c2; have t3 := t.c3; have t4 := t.c4; refine bodyPost_ret (v := .agg #[.int .i64 12, .int .i64 0, .int .i64 0, .int .i64 0, .int .u32 0]) (by simp [results, Tryz.results16, go_sem, t0, t1, t2, t3, t4]) rfl ⟨rfl, ?_⟩; exact ((((HBa.out.setCell HKl.out _).setCell HKl.out _).setCell HKl.out _).setCell HKl.out _).setCell HKl.out _
  · go_enter Tryz.func16, Tryz.ntmps16; go_upto_region 1 with fail; generalize hA : World.alloc w _ = wA; obtain ⟨K, hK⟩ : ∃ K, K = w.heap.size := ⟨_, rfl⟩; have HBa : Hid (Below w.heap.size w wA) := (Lib.hid (by rw [← hA]; exact (Below.refl _ _).alloc (Nat.le_refl _) _)); have HK0 : Hid (KeyC wA K 0 0 0 0 0) := (Lib.hid (by rw [← hA, hK]; exact KeyC.new w 0 0 0 0 0 _)); have HKl : Hid (w.heap.size ≤ K) := (Lib.hid (by rw [hK]; exact Nat.le_refl _)); rw [← hK]; clear hA hK; have z0 := HK0.out.c0; have z1 := HK0.out.c1; have z2 := HK0.out.c2; have z3 := HK0.out.c3; have z4 := HK0.out.c4; have f0 := HK0.out.fr 0; have f1 := HK0.out.fr 1; have f2 := HK0.out.fr 2; have f3 := HK0.out.fr 3; have f4 := HK0.out.fr 4; go_wp2_with fail; have t := HK0.out.set 13 0 0 0 0; have t0 := t.c0; have t1 := t.c1; have t2 := t.c2; have t3 := t.c3; have t4 := t.c4; refine bodyPost_ret (v := .agg #[.int .i64 13, .int .i64 0, .int .i64 0, .int .i64 0, .int .u32 0]) (by simp [results, Tryz.results16, go_sem, t0, t1, t2, t3, t4]) rfl ⟨rfl, ?_⟩; exact ((((HBa.out.setCell HKl.out _).setCell HKl.out _).setCell HKl.out _).setCell HKl.out _).setCell HKl.out _
  · go_enter Tryz.func16, Tryz.ntmps16; go_upto_region 1 with fail; generalize hA : World.alloc w _ = wA; obtain ⟨K, hK⟩ : ∃ K, K = w.heap.size := ⟨_, rfl⟩; have HBa : Hid (Below w.heap.size w wA) := (Lib.hid (by rw [← hA]; exact (Below.refl _ _).alloc (Nat.le_refl _) _)); have HK0 : Hid (KeyC wA K 0 0 0 0 0) := (Lib.hid (by rw [← hA, hK]; exact KeyC.new w 0 0 0 0 0 _)); have HKl : Hid (w.heap.size ≤ K) := (Lib.hid (by rw [hK]; exact Nat.le_refl _)); rw [← hK]; clear hA hK; have z0 := HK0.out.c0; have z1 := HK0.out.c1; have z2 := HK0.out.c2; have z3 := HK0.out.c3; have z4 := HK0.out.c4; have f0 := HK0.out.fr 0; have f1 := HK0.out.fr 1; have f2 := HK0.out.fr 2; have f3 := HK0.out.fr 3; have f4 := HK0.out.fr 4; go_wp2_with fail; have t := HK0.out.set 14 0 0 0 0; have t0 := t.c0; have t1 := t.c1; have t2 := t.c2; have t3 := t.c3; have t4 := t.c4; refine bodyPost_ret (v := .agg #[.int .i64 14, .int .i64 0, .int .i64 0, .int .i64 0, .int .u32 0]) (by simp [results, Tryz.results16, go_sem, t0, t1, t2, t3, t4]) rfl ⟨rfl, ?_⟩; exact ((((HBa.out.setCell HKl.out _).setCell HKl.out _).setCell HKl.out _).setCell HKl.out _).setCell HKl.out _
end
theorem take_succ' (xs : List Int) (k : Nat) (h : k < xs.length) : xs.take (k + 1) = xs.take k ++ [xs.getD k 0] := by
  rw [List.take_succ_eq_append_getElem h]
  simp [List.getD, h]
set_option maxRecDepth 100000 in
theorem among_is (a : Option Addr) (c n : Nat) (xs : List Int) (hn : Hid (xs.length = n)) (hm : n ≤ 1000000) (x : Int) (t : Bool) (ht : Hid (xs.contains x = t)) (w : World) (hx : RI w a xs) :
    Calls Tryz.prog 33 #[.slice a n c, .int .i64 x] w fun e w' => e = .returned (.bool t) ∧ Below w.heap.size w w' := by
  have HX := Lib.hid hx
  clear hx
  go_enter Tryz.func33, Tryz.ntmps33
  go_wp2_with fail
  go_loopw [5] (fun i wr => ∃ k : Nat, k ≤ n ∧ i = .int .i64 k ∧ (xs.take k).contains x = false ∧ Below w.heap.size w wr) (fun i _ => n - (intOf i).toNat)
  case atStart => exact ⟨0, by omega, rfl, by simp, Below.refl _ _⟩
  case round =>
    obtain ⟨k, hk, rfl, hno, hb⟩ := hrel
    have HB := Lib.hid hb
    have HNo := Lib.hid hno
    clear hno
    by_cases hlt : k < n
    · have hkx : k < xs.length := by rw [hn.out]; exact hlt
      obtain ⟨ad, rfl, h1, c1⟩ := (HX.out.below hb) k hkx
      have E1 := Lib.hid (take_succ' xs k hkx)
      have HM : Hid (xs.getD k 0 ∈ xs) := Lib.hid (by simp [List.getD, hkx])
      generalize xs.getD k 0 = y at c1 E1 HM
      have k0 : (0 : Int) ≤ (k : Int) := by omega
      have k1 : (k : Int) < (n : Int) := by omega
      clear hb h1 hkx
      cases hyx : (y == x)
      · have HN2 : Hid ((xs.take (k + 1)).contains x = false) := Lib.hid (by
          rw [E1.out, ← Bool.not_eq_true, List.contains_iff_mem]
          intro hmem
          rcases List.mem_append.1 hmem with h | h
          · have := HNo.out
            rw [← Bool.not_eq_true, List.contains_iff_mem] at this
            exact this h
          · simp at h
            simp [h] at hyx)
        go_wp2_with fail
        go_roundw
        case rel => exact ⟨k + 1, by omega, by go_num, HN2.out, HB.out⟩
        case measure => simp [intOf]; omega
      · have HT : Hid (t = true) := Lib.hid (by
          rw [← ht.out, List.contains_iff_mem]
          have e : y = x := by simpa using hyx
          rw [← e]
          exact HM.out)
        go_wp2_with fail
        go_ret
        exact ⟨by rw [HT.out]; rfl, HB.out⟩
    · obtain rfl : n = k := by omega
      have hdd : decide (n < n) = false := by simp
      have HT : Hid (t = false) := Lib.hid (by
        rw [← ht.out, ← HNo.out, List.take_of_length_le (by rw [hn.out]; exact Nat.le_refl _)])
      clear hb
      go_wp2_with fail
      go_ret
      exact ⟨by rw [HT.out]; rfl, HB.out⟩
def kinds12 : List Int := [1, 2, 3, 4, 7, 8, 9, 10, 11, 12, 13, 14]
theorem ri_new (w : World) (T : TypeId) : RI (w.alloc (.cells (kinds12.map (Value.int .i64)).toArray T (0, 0))) (some ⟨w.heap.size, 0, none⟩) kinds12 := by
  intro i hi
  refine ⟨_, rfl, by simp, ?_⟩
  have hc := cbox w (kinds12.map (Value.int .i64)) T i (.int .i64 (kinds12.getD i 0)) (by simp [List.getD, hi])
  by_cases h0 : i = 0
  · subst h0
    simpa [Addr.add] using hc
  · simpa [Addr.add, h0] using hc
end Go.Proofs.YtncopdhhchmpeaaGreatDoor
namespace Go.Proofs.YtncopdhhchmpeaaGreatDoor
open Go.ChangeShapes Go.WideShapes Go.ChangeAt Go.RowKit
set_option linter.unusedVariables false
set_option linter.unusedSimpArgs false
theorem answer_none (s : Nat) (vs vr : Value) (W : World) (hE : ErrsAt vs vr W) : Calls Tryz.prog 32 #[.pointer (some ⟨s, 0, none⟩), (Value.agg #[.int .i64 0, .int .i64 0, .int .i64 0, .int .i64 0, .int .u32 0]), .agg #[.int .u32 0, .int .u32 0, .int .u32 0, .int .u32 0, .int .i64 0, .int .i64 0, .int .i64 0, .int .i64 0, .int .u32 0, .int .i64 0, .int .i64 0, .int .i64 0, .int .i64 0, .int .u32 0, .int .i64 0, .int .i64 0, .int .i64 0, .int .i64 0, .int .u32 0]] W fun e w' => e = .returned (.tuple #[(Value.agg #[.int .u32 1, .int .u32 0, .int .u32 0, .int .u32 0, .int .i64 0, .int .i64 0, .int .i64 0, .int .i64 0, .int .u32 0, .int .i64 0, .int .i64 0, .int .i64 0, .int .i64 0, .int .u32 0, .int .i64 0, .int .i64 0, .int .i64 0, .int .i64 0, .int .u32 0]), .bool true]) ∧ Below W.heap.size W w' := by
  refine (oanswer (Q := fun w' => Below W.heap.size W w') (N := W.heap.size) (nt := [.int .u32 1, .int .u32 0, .int .u32 0, .int .u32 0, .int .i64 0, .int .i64 0, .int .i64 0, .int .i64 0, .int .u32 0, .int .i64 0, .int .i64 0, .int .i64 0, .int .i64 0, .int .u32 0, .int .i64 0, .int .i64 0, .int .i64 0, .int .i64 0, .int .u32 0]) rfl (by simp [Value.oneCell']) s 0 0 0 0 0 0 0 0 0 0 0 0 0 0 0 0 0 0 0 0 0 0 0 0 0 0 0 0 0 0 0 0 0 0 0 0 0 0 0 0 0 0 0 0 (by decide) (by decide) W (Nat.le_refl _) (fun w1 w2 h1 h2 => h1.trans h2) ?_ ?_ ?_ ?_ ?_).mono (fun e w' h9 => ⟨h9.1, h9.2.1⟩)
  · exact fun V hV => oseen_void s vs vr V (hE.below hV)
  · exact fun V hV => oseen_void s vs vr V (hE.below hV)
  · exact fun V hV => oseen_void s vs vr V (hE.below hV)
  · exact fun V hV => oseen_void s vs vr V (hE.below hV)
  · exact fun V hV => (oanswer_void (Lib.hid (c25_call s 0 0 0 0 0 0 0 0 0 0 0 0 0 0 0 0 0 0 0 0 0 0 0 0)) V).mono (fun e w' h9 => ⟨h9.1, hV.trans (h9.2.mono hV.size), UpT.below h9.2⟩)
/-- A note as a list of cells. -/
structure NtC (nt : List Value) (o a : Int) : Prop where
  len : nt.length = 19
  one : ∀ v, v ∈ nt → v.oneCell' = true
  c0 : nt[0]? = some (.int .u32 o)
  c1 : nt[1]? = some (.int .u32 a)
theorem answer_none2 : ∃ nt, NtC nt 1 0 ∧ ∀ (s : Nat) (vs vr : Value) (W : World), ErrsAt vs vr W → Calls Tryz.prog 32 #[.pointer (some ⟨s, 0, none⟩), (Value.agg #[.int .i64 0, .int .i64 0, .int .i64 0, .int .i64 0, .int .u32 0]), .agg #[.int .u32 0, .int .u32 0, .int .u32 0, .int .u32 0, .int .i64 0, .int .i64 0, .int .i64 0, .int .i64 0, .int .u32 0, .int .i64 0, .int .i64 0, .int .i64 0, .int .i64 0, .int .u32 0, .int .i64 0, .int .i64 0, .int .i64 0, .int .i64 0, .int .u32 0]] W fun e w' => e = .returned (.tuple #[.agg nt.toArray, .bool true]) ∧ Below W.heap.size W w' :=
  ⟨[.int .u32 1, .int .u32 0, .int .u32 0, .int .u32 0, .int .i64 0, .int .i64 0, .int .i64 0, .int .i64 0, .int .u32 0, .int .i64 0, .int .i64 0, .int .i64 0, .int .i64 0, .int .u32 0, .int .i64 0, .int .i64 0, .int .i64 0, .int .i64 0, .int .u32 0], ⟨rfl, by simp [Value.oneCell'], rfl, rfl⟩, answer_none⟩
set_option maxRecDepth 100000 in
set_option maxHeartbeats 2000000 in
theorem first22_is (vs vr : Value) (w : World) (hE : ErrsAt vs vr w) : Calls Tryz.prog 27 #[] w fun e w' => e = .returned (.bool true) ∧ Below w.heap.size w w' := by
  have HE := Lib.hid hE
  clear hE
  obtain ⟨nt, hN, hAn⟩ := answer_none2
  have HN := Lib.hid hN
  have HAn := Lib.hid hAn
  have hsz : nt.toArray.size = 19 := by simp [hN.len]
  clear hN hAn
  go_enter Tryz.func27, Tryz.ntmps27
  go_upto_region 4 with (first
    | (go_at_call 11; (with_reducible refine (script_ok _).mono ?_); rintro e w1 ⟨L, X, x, rfl, hs, -, hb⟩; have HB1 := Lib.hid hb; clear hs hb))
  have HA1 := Lib.hid (HAn.out X.s vs vr w1 (HE.out.below HB1.out))
  go_upto_region 5 with (first
    | (go_at_call 32; (with_reducible refine HA1.out.mono ?_); rintro e w2 ⟨rfl, hb⟩; have HB2 := Lib.hid (HB1.out.trans (hb.mono HB1.out.size)); clear hb)
    | (refine wpList_store_mid (by rfl) _ _ _ (by rfl) w2.heap.size 0 nt.toArray (by rfl) (by rfl) (by rw [hsz]; exact nthere_new _ _ 19 (by rfl) _) (by rw [hsz]; exact infoNote) (all_one HN.out.one) ?_))
  generalize hA : World.setCells _ w2.heap.size 0 _ = w3
  obtain ⟨Y, hY⟩ : ∃ Y, Y = w2.heap.size := ⟨_, rfl⟩
  have H3 : Hid (Below w.heap.size w w3 ∧ w3.rangeAt Y 0 nt) := Lib.hid (by rw [← hA, hY]; exact ⟨nbelow_cells (HB2.out.alloc HB2.out.size _) HB2.out.size _ _, World.rangeAt_setCells_same _ w2.heap.size 0 nt (by rw [HN.out.len]; exact nthere_new _ _ 19 (by rfl) _)⟩)
  rw [← hY]
  clear hA hY
  have q0 := CallC.cell H3.out.2 0 _ HN.out.c0
  go_wp2_with fail
  go_ret
  exact ⟨rfl, H3.out.1⟩
end Go.Proofs.YtncopdhhchmpeaaGreatDoor
namespace Go.Proofs.YtncopdhhchmpeaaGreatDoor
open Go.ChangeShapes Go.WideShapes Go.ChangeAt Go.RowKit
set_option linter.unusedVariables false
set_option linter.unusedSimpArgs false
section
variable {cs nt : List Value} {s N : Nat} {k1 k2 k3 k4 o x : Int} {Q : World → Prop}
end
/-- What is told of a right key by the program and by the document's reckoning. -/
structure KF (k0 k1 k2 k3 k4 : Int) (s u : Bool) (r0 r1 r2 r3 r4 : Int) : Prop where
  pS : ∀ W : World, Calls Tryz.prog 164 #[(Value.agg #[.int .i64 k0, .int .i64 k1, .int .i64 k2, .int .i64 k3, .int .u32 k4])] W fun e w' => e = .returned (.bool s) ∧ Below W.heap.size W w'
  rS : ∀ W : World, Calls Tryz.prog 40 #[(Value.agg #[.int .i64 k0, .int .i64 k1, .int .i64 k2, .int .i64 k3, .int .u32 k4])] W fun e w' => e = .returned (.bool s) ∧ Below W.heap.size W w'
  pU : ∀ W : World, Calls Tryz.prog 165 #[(Value.agg #[.int .i64 k0, .int .i64 k1, .int .i64 k2, .int .i64 k3, .int .u32 k4])] W fun e w' => e = .returned (.bool u) ∧ Below W.heap.size W w'
  rU : ∀ W : World, Calls Tryz.prog 41 #[(Value.agg #[.int .i64 k0, .int .i64 k1, .int .i64 k2, .int .i64 k3, .int .u32 k4])] W fun e w' => e = .returned (.bool u) ∧ Below W.heap.size W w'
  pW : ∀ W : World, Calls Tryz.prog 166 #[(Value.agg #[.int .i64 k0, .int .i64 k1, .int .i64 k2, .int .i64 k3, .int .u32 k4])] W fun e w' => e = .returned (Value.agg #[.int .i64 r0, .int .i64 r1, .int .i64 r2, .int .i64 r3, .int .u32 r4]) ∧ Below W.heap.size W w'
  rW : ∀ W : World, Calls Tryz.prog 36 #[(Value.agg #[.int .i64 k0, .int .i64 k1, .int .i64 k2, .int .i64 k3, .int .u32 k4])] W fun e w' => e = .returned (Value.agg #[.int .i64 r0, .int .i64 r1, .int .i64 r2, .int .i64 r3, .int .u32 r4]) ∧ Below W.heap.size W w'
section
variable {w0 w : World} {L : BLoc} {X : SLoc} {D : BSt}
end
end Go.Proofs.YtncopdhhchmpeaaGreatDoor
namespace Go.Proofs.YtncopdhhchmpeaaGreatDoor
open Go.ChangeShapes Go.WideShapes Go.ChangeAt Go.RowKit
set_option linter.unusedVariables false
set_option linter.unusedSimpArgs false
def jD1 : BSt := openedB st0 (-1) 10
def jD2 : BSt := boughtN jD1 0 0 0 (freshV jD1.nW 0 (kcs (fun _ _ => 0) 0))
def jD3 : BSt := boughtP jD2 0 0 0 (fresh jD2.pW 0 [])
section
variable {w0 w : World} {L : BLoc} {X : SLoc} {D : BSt}
theorem chain0 (h : SJ w0 w L X D) (hn : D.nb = 1) (hp : D.pr 0 = -1) : chL D.pr ((0 : Nat) : Int) = [((0 : Nat) : Int)] := chL_root h.k.pk (by rw [hn]; decide) 0 (by rw [hn]; decide) hp
theorem us2 (i : Nat) : 0 ≤ jD2.us i ∧ jD2.us i ≤ 1 := by
  show 0 ≤ addL jD1.us _ 1 i ∧ addL jD1.us _ 1 i ≤ 1
  unfold addL
  split <;> simp [jD1, openedB, st0, upd]
end
def nA (a b c : Int) : List Value := [.int .u32 0, .int .u32 a, .int .u32 b, .int .u32 c, .int .i64 0, .int .i64 0, .int .i64 0, .int .i64 0, .int .u32 0, .int .i64 0, .int .i64 0, .int .i64 0, .int .i64 0, .int .u32 0, .int .i64 0, .int .i64 0, .int .i64 0, .int .i64 0, .int .u32 0]
def nR (r0 r1 r2 r3 r4 : Int) : List Value := [.int .u32 0, .int .u32 0, .int .u32 0, .int .u32 0, .int .i64 r0, .int .i64 r1, .int .i64 r2, .int .i64 r3, .int .u32 r4, .int .i64 0, .int .i64 0, .int .i64 0, .int .i64 0, .int .u32 0, .int .i64 0, .int .i64 0, .int .i64 0, .int .i64 0, .int .u32 0]
end Go.Proofs.YtncopdhhchmpeaaGreatDoor
