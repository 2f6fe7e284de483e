/-
  BkR as one.
-/
import Derived.Test.YtkogmhgpkacehaaDoorP11
namespace Go.Proofs.YtkogmhgpkacehaaDoor
open Go.ChangeShapes Go.WideShapes Go.ChangeAt Go.RowKit
set_option linter.unusedVariables false
set_option linter.unusedSimpArgs false
theorem rw_node {w0 : World} {L : BLoc} {D : BSt} (y : Int) (q : Nat) (hy : Hid (y = (q : Int))) (hq : q < D.nb) (vs vr : Value) (j : Nat) (hj : j < L.a.n) (hyes : Hid (freeB D.nt D.nv j = true)) (hno : Hid (∀ i, i < j → freeB D.nt D.nv i = false)) (v : Int) (hv : Hid (D.nv j = v)) (hfull : Hid ((chL D.pr q).any (fullB D.us D.lm) = false)) (hu : Hid (∀ i, i < L.n → -1000000 ≤ D.us i ∧ D.us i ≤ 1000000)) (w : World) (h : BW w0 w L D) (hE : ErrsAt vs vr w) :
    Calls Tryd.prog 80 #[.pointer (some ⟨L.P, 0, none⟩), .int .i64 y, .slice none 0 0] w fun e w' => e = .returned (.tuple #[.int .i64 j, .int .i64 v, .nilIface]) ∧ BW w0 w' L (boughtN D q j v (freshV D.nW j (kcs (fun _ _ => 0) 0))) ∧ UpT L.T w w' := by
  rw [hy.out]
  exact bnode_ok q hq vs vr none 0 0 (fun _ _ => 0) (Lib.hid (fun i hi => by omega)) (by decide) j hj hyes hno v hv hfull hu w h hE (srcv_none L w _)
theorem rw_nodefull {w0 : World} {L : BLoc} {D : BSt} (y : Int) (q : Nat) (hy : Hid (y = (q : Int))) (hq : q < D.nb) (vs vr : Value) (hno : Hid (∀ i, i < L.a.n → freeB D.nt D.nv i = false)) (z : Addr) (hfull : Hid ((chL D.pr q).any (fullB D.us D.lm) = false)) (w : World) (h : BW w0 w L D) (hF : w.cell? ⟨4, 0, none⟩ = some (eV z)) (hl : 4 < w.heap.size) (hE : ErrsAt vs vr w) :
    Calls Tryd.prog 80 #[.pointer (some ⟨L.P, 0, none⟩), .int .i64 y, .slice none 0 0] w fun e w' => e = .returned (.tuple #[.int .i64 0, .int .i64 0, eV z]) ∧ Below w.heap.size w w' := by
  rw [hy.out]
  exact bnode_full q hq vs vr none 0 0 (fun _ _ => 0) (Lib.hid (fun i hi => by omega)) (by decide) hno z hfull w h hF hl hE (srcv_none L w _)
theorem rw_page {w0 : World} {L : BLoc} {D : BSt} (y z : Int) (q : Nat) (hy : Hid (y = (q : Int))) (hz : Hid (((0 : Nat) : Int) = z)) (hq : q < D.nb) (hj : 0 < L.b.n) (hyes : Hid (freeB D.pt D.pv 0 = true)) (v : Int) (hv : Hid (D.pv 0 = v)) (hfull : Hid ((chL D.pr q).any (fullB D.us D.lm) = false)) (hu : Hid (∀ i, i < L.n → -1000000 ≤ D.us i ∧ D.us i ≤ 1000000)) (w : World) (h : BW w0 w L D) :
    Calls Tryd.prog 81 #[.pointer (some ⟨L.P, 0, none⟩), .int .i64 y, .slice none 0 0] w fun e w' => e = .returned (.tuple #[.int .i64 z, .int .i64 v, .nilIface]) ∧ BW w0 w' L (boughtP D q 0 v (fresh D.pW 0 [])) ∧ UpT L.T w w' := by
  rw [hy.out, ← hz.out]
  exact bpage_ok q hq none 0 0 [] (Lib.hid rfl) (by decide) 0 hj hyes (Lib.hid (by intro i hi; omega)) v hv hfull hu w h (srcw_none L w)
theorem rw_pagefull {w0 : World} {L : BLoc} {D : BSt} (y : Int) (q : Nat) (hy : Hid (y = (q : Int))) (hq : q < D.nb) (hno : Hid (∀ i, i < L.b.n → freeB D.pt D.pv i = false)) (z : Addr) (hfull : Hid ((chL D.pr q).any (fullB D.us D.lm) = false)) (w : World) (h : BW w0 w L D) (hF : w.cell? ⟨4, 0, none⟩ = some (eV z)) (hl : 4 < w.heap.size) :
    Calls Tryd.prog 81 #[.pointer (some ⟨L.P, 0, none⟩), .int .i64 y, .slice none 0 0] w fun e w' => e = .returned (.tuple #[.int .i64 0, .int .i64 0, eV z]) ∧ Below w.heap.size w w' := by
  rw [hy.out]
  exact bpage_full q hq none 0 0 [] (Lib.hid rfl) (by decide) hno z hfull w h hF hl (srcw_none L w)
theorem rw_give {w0 : World} {L : BLoc} {D : BSt} {D2 : BSt} (x y : Int) (k1 q : Nat) (hx : Hid (x = (k1 : Int))) (hy : Hid (y = (q : Int))) (hj2 : k1 < 256) (hq : q < D.nb) (ht : Hid (liveK L D 2 k1 0 = true)) (h2 : Hid (D2.nb = D.nb ∧ D2.pr = D.pr ∧ D2.us = D.us)) (hu : Hid (∀ i, i < L.n → -1000000 ≤ D.us i ∧ D.us i ≤ 1000000)) (w : World) (h : BW w0 w L D) (hT : TiAt w L 2 L.G1 k1 q 0)
    (hgb : ∀ W, BW w0 W L D → Calls Tryd.prog 158 #[.pointer (some ⟨L.P, 0, none⟩), Value.agg #[.int .i64 2, .int .i64 (k1 : Int), .int .i64 0, .int .i64 0, .int .u32 0]] W fun e w' => e = .returned (.tuple #[]) ∧ BW w0 w' L D2 ∧ UpT L.T W w') :
    Calls Tryd.prog 89 #[.pointer (some ⟨L.P, 0, none⟩), .int .i64 y, Value.agg #[.int .i64 2, .int .i64 x, .int .i64 0, .int .i64 0, .int .u32 0]] w fun e w' => e = .returned .nilIface ∧ BW w0 w' L { D2 with us := addL D.us (chL D.pr q) (-1) } ∧ UpT L.T w w' := by
  rw [hy.out, hx.out]
  exact bgive_ok 2 k1 0 0 0 L.G1 q hj2 hq ht h2 hu w h hT hgb
def usI (u : Int) : Nat → Int := fun j => if j = 0 then u else 0
theorem usI_put (u x y : Int) (h : u + x = y) : addL (usI u) [((0 : Nat) : Int)] x = usI y := by
  funext i
  unfold addL usI
  by_cases e : i = 0
  · subst e; simp [h]
  · have : ¬ (i : Int) = 0 := by omega
    simp [e]
theorem ch_one : chL (pD 1) ((0 : Nat) : Int) = [((0 : Nat) : Int)] := chL_root (pD_ok 1) (by decide) 0 (by decide) rfl
/-- One bank; so many nodes taken, so many things used. -/
structure RD (D : BSt) (i : Nat) (u : Int) : Prop where
  nb : D.nb = 1
  pr : D.pr = pD 1
  us : D.us = usI u
  lm : D.lm 0 = 20
  nt : D.nt = thN i
  nv : D.nv = fun _ => 0
  pv : D.pv = fun _ => 0
section
variable {D : BSt} {i : Nat} {u : Int}
theorem RD.q (h : RD D i u) : 0 < D.nb := by rw [h.nb]; decide
theorem RD.full (h : RD D i u) (hu : u < 20) : (chL D.pr ((0 : Nat) : Int)).any (fullB D.us D.lm) = false := by
  rw [h.pr, ch_one, h.us]
  have := h.lm
  simp [fullB, usI, this]
  omega
theorem RD.bound (h : RD D i u) (h0 : 0 ≤ u) (hu : u < 100) : ∀ j, -1000000 ≤ D.us j ∧ D.us j ≤ 1000000 := fun j => by
  rw [h.us]
  unfold usI
  split <;> omega
theorem RD.node (h : RD D i u) (nW : Nat → Nat → Value) : RD (boughtN D 0 i 0 nW) (i + 1) (u + 1) :=
  ⟨h.nb, h.pr, by show addL D.us (chL D.pr ((0 : Nat) : Int)) 1 = _; rw [h.pr, ch_one, h.us]; exact usI_put u 1 _ rfl, h.lm, by show upd D.nt i true = _; rw [h.nt]; exact thN_put i, h.nv, h.pv⟩
theorem RD.page (h : RD D i u) (pW : Nat → Nat → Int) : RD (boughtP D 0 0 0 pW) i (u + 1) :=
  ⟨h.nb, h.pr, by show addL D.us (chL D.pr ((0 : Nat) : Int)) 1 = _; rw [h.pr, ch_one, h.us]; exact usI_put u 1 _ rfl, h.lm, h.nt, h.nv, h.pv⟩
end
theorem rd_start : RD (openedB st0 (-1) 20) 0 0 := by
  refine ⟨rfl, ?_, ?_, ?_, ?_, rfl, rfl⟩
  · show upd (fun _ => 0) 0 (-1) = _
    rw [← pD_put 0 (-1) (by decide)]; rfl
  · funext j
    show upd (fun _ => 0) 0 0 j = _
    unfold upd usI
    split <;> rfl
  · show upd (fun _ => 0) 0 20 0 = 20
    simp [upd]
  · funext j; simp [openedB, st0, thN]
theorem z_castR : (0 : Int) = ((0 : Nat) : Int) := rfl
theorem z_castL : ((0 : Nat) : Int) = (0 : Int) := rfl
set_option maxRecDepth 100000 in
set_option maxHeartbeats 8000000 in
theorem broom_walk (a0 : Int) (n R : Nat) (hR : Hid (n = R + 1)) (hR9 : R < 6) (CR : Hid (∀ w, Calls Tryd.prog 71 #[.int .i64 a0, .int .i64 6] w fun e w' => e = .returned (.int .i64 (R : Int)) ∧ w = w')) (w : World) (A : Nat → Addr) (hS : Sen A w) :
    Calls Tryd.prog 11 #[.int .i64 a0] w fun e w' => e = .returned (.bool true) ∧ Below w.heap.size w w' := by
  have HS := Lib.hid hS
  have hn1 : (R : Int) + 1 = (n : Int) := by have := hR.out; omega
  have hn2 : (n : Int) - 1 = (R : Int) := by have := hR.out; omega
  have hn0 : 1 ≤ n := by have := hR.out; omega
  have hn : n ≤ 6 := by have := hR.out; omega
  have HRn : Hid (R < n) := Lib.hid (by have := hR.out; omega)
  clear hS
  go_enter Tryd.func11, Tryd.ntmps11
  go_wp2_with (first
    | (go_at_call 73; (with_reducible refine (bfirst_is _ A HS.out).mono ?_); rintro e w1 ⟨rfl, hb1⟩; have HB1 := Lib.hid hb1; have HS1 := Lib.hid (HS.out.below hb1); clear hb1)
    | (go_at_call 71; (with_reducible refine (CR.out _).mono ?_); rintro e w2 ⟨rfl, rfl⟩)
    | (go_at_call 74; (with_reducible refine (made18_is (n : Int) 1 1 2 n 1 1 2 (Lib.hid ⟨rfl, rfl, rfl, rfl⟩) ⟨hn0, by omega⟩ (by decide) (by decide) (by decide) _).mono ?_); rintro e w2 ⟨L, rfl, hW, hn⟩; have HW1 := Lib.hid hW; have HN := Lib.hid hn.out; clear hW hn)
    | (go_at_call 75; (with_reducible refine (bwroot_ok 20 (by decide) (by decide) 0 (Lib.hid rfl) (by rw [st0_nb]; have := HN.out; omega) _ HW1.out).mono ?_); rintro e w3 ⟨rfl, hW, hu⟩; have HW2 := Lib.hid hW; clear hW hu))
  go_loopw [7] (fun z wr => ∃ (i : Nat) (D : BSt), i ≤ n ∧ z = .int .i64 i ∧ BW w1 wr L D ∧ Hid (RD D i i ∧ (D.pt = fun _ => false) ∧ ∀ j, j < i → D.o1 j = 0 ∧ D.v1 j = 0)) (fun z _ => n - (intOf z).toNat)
  case atStart => exact ⟨0, _, by omega, rfl, HW2.out, Lib.hid ⟨rd_start, rfl, fun j hj => by omega⟩⟩
  case round =>
    obtain ⟨i, D, hi, rfl, hW, hD⟩ := hrel
    have HW := Lib.hid hW
    have HD := Lib.hid hD.out.1
    have HPt := Lib.hid hD.out.2.1
    have HO := Lib.hid hD.out.2.2
    have HEr : Hid (ErrsAt (eV (sA A 1)) (eV (sA A 2)) wr) := Lib.hid (by have h := HS1.out.below hW.bel; exact ⟨h.c1, h.c2, h.s1, h.s2⟩)
    have i0 : (0 : Int) ≤ i := by omega
    clear hW hD
    by_cases hlt : i < n
    · have HFr : Hid (freeB D.nt D.nv i = true) := Lib.hid (by rw [HD.out.nt, HD.out.nv]; exact thN_free i)
      have HNo : Hid (∀ j, j < i → freeB D.nt D.nv j = false) := Lib.hid (by rw [HD.out.nt, HD.out.nv]; exact thN_not i)
      have HFu := Lib.hid (HD.out.full (by omega))
      have HBo : Hid (∀ j, j < L.n → -1000000 ≤ D.us j ∧ D.us j ≤ 1000000) := Lib.hid (fun j _ => HD.out.bound (by omega) (by omega) j)
      go_wp2_with (first
        | (go_at_call 80; (with_reducible refine (rw_node 0 0 (Lib.hid z_castR) HD.out.q _ _ i (by have := HN.out; omega) HFr HNo 0 (Lib.hid (by rw [HD.out.nv])) HFu HBo _ HW.out HEr.out).mono ?_); rintro e w4 ⟨rfl, hW, hu⟩; have HW4 := Lib.hid hW; clear hW hu))
      go_roundw
      case rel => exact ⟨i + 1, _, by omega, by go_num, HW4.out, Lib.hid ⟨HD.out.node _, HPt.out, fun j hj => by by_cases e : j = i <;> simp [boughtN, upd, e]; exact HO.out j (by omega)⟩⟩
      case measure => simp [intOf]; omega
    · obtain rfl : i = n := by omega
      have hdd : decide (i < i) = false := by simp
      have HNo : Hid (∀ j, j < L.a.n → freeB D.nt D.nv j = false) := Lib.hid (by rw [HD.out.nt, HD.out.nv]; have := HN.out; intro j hj; exact thN_not i j (by omega))
      have HFu := Lib.hid (HD.out.full (by omega))
      have HBo : Hid (∀ j, j < L.n → -1000000 ≤ D.us j ∧ D.us j ≤ 1000000) := Lib.hid (fun j _ => HD.out.bound (by omega) (by omega) j)
      have HFp : Hid (freeB D.pt D.pv 0 = true) := Lib.hid (by rw [HPt.out, HD.out.pv]; rfl)
      obtain ⟨Dp, HDp⟩ : ∃ Dp, Hid (Dp = boughtP D 0 0 0 (fresh D.pW 0 [])) := ⟨_, Lib.hid rfl⟩
      have HRp : Hid (RD Dp i ((i : Int) + 1)) := Lib.hid (by rw [HDp.out]; exact HD.out.page _)
      have HNp : Hid (∀ j, j < L.b.n → freeB Dp.pt Dp.pv j = false) := Lib.hid (by have := HN.out; intro j hj; obtain rfl : j = 0 := (by omega); rw [HDp.out]; simp [boughtP, freeB, upd])
      have HFu2 := Lib.hid (HRp.out.full (by omega))
      have HUs : Hid (Dp.us 0 = (i : Int) + 1) := Lib.hid (by rw [HRp.out.us]; rfl)
      go_upto_region 21 with (first
        | (go_at_call 80; (with_reducible refine (rw_nodefull 0 0 (Lib.hid z_castR) HD.out.q _ _ HNo (sA A 5) HFu _ HW.out (HS1.out.below HW.out.bel).c5 (HS1.out.below HW.out.bel).s5 HEr.out).mono ?_); rintro e w4 ⟨rfl, hb⟩; have HW4 := Lib.hid (HW.out.below hb); clear hb)
        | (go_at_call 81; (with_reducible refine (rw_page 0 0 0 (Lib.hid z_castR) (Lib.hid z_castL) HD.out.q (by have := HN.out; omega) HFp 0 (Lib.hid (by rw [HD.out.pv])) HFu HBo _ HW4.out).mono ?_); rintro e w5 ⟨rfl, hW, hu⟩; rw [← HDp.out] at hW; have HW5 := Lib.hid hW; clear hW hu)
        | (go_at_call 81; (with_reducible refine (rw_pagefull 0 0 (Lib.hid z_castR) HRp.out.q HNp (sA A 5) HFu2 _ HW5.out (HS1.out.below HW5.out.bel).c5 (HS1.out.below HW5.out.bel).s5).mono ?_); rintro e w6 ⟨rfl, hb⟩; have HW6 := Lib.hid (HW5.out.below hb); clear hb)
        | (go_at_call 20; (with_reducible refine (is_sen A 5 106 (by decide) (Lib.hid (by decide)) _ (HS1.out.below HW6.out.bel)).mono ?_); rintro e w7 ⟨rfl, hb⟩; have HW7 := Lib.hid (HW6.out.below hb); clear hb)
        | (go_at_call 20; (with_reducible refine (is_sen A 5 106 (by decide) (Lib.hid (by decide)) _ (HS1.out.below HW7.out.bel)).mono ?_); rintro e w8 ⟨rfl, hb⟩; have HW8 := Lib.hid (HW7.out.below hb); have m0 := (HW7.out.below hb).mm.m0; clear hb)
        | (go_at_call 78; (with_reducible refine (bused_is 0 0 ((i : Int) + 1) (Lib.hid z_castR) HRp.out.q HW8.out.nn HUs _ HW8.out.kk).mono ?_); rintro e w9 ⟨rfl, rfl⟩)
        | (go_at_call 48; (with_reducible refine (snodekey_in (R : Int) 0 R (Lib.hid rfl) (by decide) (by decide) (by have := HN.out; have := HRn.out; omega) (Lib.hid (by rw [HRp.out.nt]; exact thN_at HRn.out)) 0 (Lib.hid (by rw [HRp.out.nv])) _ HW8.out.mm.sv.st).mono ?_); rintro e w9 ⟨rfl, hb⟩; have HW9 := Lib.hid (HW8.out.below hb); clear hb m0))
      generalize hwk : World.alloc w9 _ = wk
      have HBk : Hid (Below w9.heap.size w9 wk) := Lib.hid (by rw [← hwk]; exact (Below.refl _ _).alloc (Nat.le_refl _) _)
      obtain ⟨kb, hkb⟩ : ∃ kb, kb = w9.heap.size := ⟨_, rfl⟩
      have HKk : Hid (KeyC wk kb 2 (R : Int) 0 0 0) := Lib.hid (by rw [← hwk, hkb]; exact KeyC.new w9 2 (R : Int) 0 0 0 _)
      have HKb : Hid (L.T ≤ kb) := Lib.hid (by rw [hkb]; exact HW9.out.tw)
      rw [← hkb]
      clear hwk hkb
      have HWk := Lib.hid (HW9.out.below HBk.out)
      have HRi : Hid (R < i) := HRn
      have HLv : Hid (liveK L Dp 2 (R : Int) 0 = true) := Lib.hid (by have := HN.out; have := HRi.out; simp [liveK, thereB, HRp.out.nt, HRp.out.nv, thN]; omega)
      obtain ⟨Dg, HDg⟩ : ∃ Dg, Hid (Dg = { Dp with nt := upd Dp.nt R false, nv := upd Dp.nv R (0 + 1), o1 := upd Dp.o1 R (-1), v1 := upd Dp.v1 R 0 }) := ⟨_, Lib.hid rfl⟩
      have HG2 : Hid (Dg.nb = Dp.nb ∧ Dg.pr = Dp.pr ∧ Dg.us = Dp.us) := Lib.hid (by rw [HDg.out]; exact ⟨rfl, rfl, rfl⟩)
      have HUb : Hid (∀ j, j < L.n → -1000000 ≤ Dp.us j ∧ Dp.us j ≤ 1000000) := Lib.hid (fun j _ => HRp.out.bound (by omega) (by omega) j)
      have HGb : Hid (∀ W, BW w1 W L Dp → Calls Tryd.prog 158 #[.pointer (some ⟨L.P, 0, none⟩), Value.agg #[.int .i64 2, .int .i64 (R : Int), .int .i64 0, .int .i64 0, .int .u32 0]] W fun e w' => e = .returned (.tuple #[]) ∧ BW w1 w' L Dg ∧ UpT L.T W w') := Lib.hid (fun W hW => by rw [HDg.out]; have := HN.out; have := HRi.out; exact bgb_node R 0 0 0 (by omega) (by omega) (Lib.hid (by rw [HRp.out.nt]; exact thN_at HRi.out)) (Lib.hid (by rw [HRp.out.nv])) (by decide) (by decide) W hW)
      have HTi : Hid (TiAt wk L 2 L.G1 R ((0 : Nat) : Int) 0) := Lib.hid (by
        have h := HWk.out.kk
        have ho := HO.out R HRi.out
        have e1 : Dp.o1 R = ((0 : Nat) : Int) := by rw [HDp.out]; exact ho.1
        have e2 : Dp.v1 R = 0 := by rw [HDp.out]; exact ho.2
        have ht := h.t1.ti R (by have := HRi.out; omega)
        rw [e1, e2] at ht
        exact ⟨.inl ⟨rfl, rfl⟩, h.t1.lt.2, ht.1, ht.2⟩)
      obtain ⟨De, HDe⟩ : ∃ De, Hid (De = { Dg with us := addL Dp.us (chL Dp.pr ((0 : Nat) : Int)) (-1) }) := ⟨_, Lib.hid rfl⟩
      have HEn : Hid (De.nt = upd (thN i) R false ∧ De.nv = upd (fun _ => 0) R 1 ∧ De.us = usI i ∧ De.nb = 1 ∧ De.pr = pD 1 ∧ De.lm 0 = 20) := Lib.hid (by
        rw [HDe.out, HDg.out]
        refine ⟨by show upd Dp.nt R false = _; rw [HRp.out.nt], by show upd Dp.nv R (0 + 1) = _; rw [HRp.out.nv]; rfl, ?_, HRp.out.nb, HRp.out.pr, HRp.out.lm⟩
        show addL Dp.us (chL Dp.pr ((0 : Nat) : Int)) (-1) = _
        rw [HRp.out.pr, ch_one, HRp.out.us]
        exact usI_put _ (-1) _ (by omega))
      have HFe : Hid ((chL De.pr ((0 : Nat) : Int)).any (fullB De.us De.lm) = false) := Lib.hid (by rw [HEn.out.2.2.2.2.1, ch_one, HEn.out.2.2.1]; have := HEn.out.2.2.2.2.2; simp [fullB, usI, this]; omega)
      have HBe : Hid (∀ j, j < L.n → -1000000 ≤ De.us j ∧ De.us j ≤ 1000000) := Lib.hid (fun j _ => by rw [HEn.out.2.2.1]; unfold usI; split <;> omega)
      have HYe : Hid (freeB De.nt De.nv R = true) := Lib.hid (by rw [HEn.out.1, HEn.out.2.1]; simp [freeB, upd])
      have HZe : Hid (∀ j, j < R → freeB De.nt De.nv j = false) := Lib.hid (fun j hj => by rw [HEn.out.1, HEn.out.2.1]; have := HRi.out; simp [freeB, upd, thN, show ¬ j = R by omega]; omega)
      have h0e : 0 < De.nb := by rw [HEn.out.2.2.2.1]; decide
      have HUe : Hid (De.us 0 = (i : Int)) := Lib.hid (by rw [HEn.out.2.2.1]; rfl)
      have HLi : Hid (∀ nW W, BW w1 W L (boughtN De 0 R 1 nW) → Calls Tryd.prog 32 #[.pointer (some ⟨L.S, 0, none⟩), Value.agg #[.int .i64 2, .int .i64 (R : Int), .int .i64 0, .int .i64 0, .int .u32 0]] W fun e w' => e = .returned (.bool false) ∧ Below W.heap.size W w') := Lib.hid (fun nW W hW => slive_is 2 (R : Int) 0 0 0 false (Lib.hid (by simp [boughtN, HEn.out.2.1, upd])) W hW.mm.sv.st)
      have hEq : ((R : Int) == (i : Int) - 1) = true := by rw [hn2]; simp
      have hwr : IntKind.i64.wrap (R : Int) = (R : Int) := by rw [IntKind.wrap_i64]; omega
      have q0 := HKk.out.c0; have q1 := HKk.out.c1; have q2 := HKk.out.c2; have q3 := HKk.out.c3; have q4 := HKk.out.c4
      go_upto_region 24 with (first
        | (go_at_call 89; (with_reducible refine (rw_give (R : Int) 0 R 0 (Lib.hid rfl) (Lib.hid z_castR) (by have := HRi.out; omega) HRp.out.q HLv HG2 HUb _ HWk.out HTi.out HGb.out).mono ?_); rintro e w10 ⟨rfl, hW, hu⟩; rw [← HDe.out] at hW; have HW10 := Lib.hid hW; have HK10 := Lib.hid (HKk.out.upt hu HKb.out); have HEe : Hid (ErrsAt (eV (sA A 1)) (eV (sA A 2)) w10) := Lib.hid (by have h := HS1.out.below hW.bel; exact ⟨h.c1, h.c2, h.s1, h.s2⟩); clear hW hu; clear q0 q1 q2 q3 q4)
        | (go_at_call 78; (with_reducible refine (bused_is 0 0 (i : Int) (Lib.hid z_castR) h0e HW10.out.nn HUe _ HW10.out.kk).mono ?_); rintro e w11 ⟨rfl, rfl⟩)
        | (go_at_call 80; (with_reducible refine (rw_node 0 0 (Lib.hid z_castR) h0e _ _ R (by have := HN.out; have := HRi.out; omega) HYe HZe 1 (Lib.hid (by rw [HEn.out.2.1]; exact upd_at _ _ _)) HFe HBe _ HW10.out HEe.out).mono ?_); rintro e w12 ⟨rfl, hW, hu⟩; have HW12 := Lib.hid hW; have HK12 := Lib.hid (HK10.out.upt hu HKb.out); clear hW hu))
      obtain ⟨wD, hwD⟩ : ∃ wD, wD = w12.drew := ⟨_, rfl⟩
      have HBD : Hid (Below w12.heap.size w12 wD) := Lib.hid (by rw [hwD]; exact (Below.refl _ _).drew)
      have HWD := Lib.hid (HW12.out.below HBD.out)
      have HKD := Lib.hid (HK12.out.below HBD.out)
      refine wp_region_noPanic ?_
      refine wp_region_held_drew (S := fun w' => World.cell? w' ⟨L.mb, 0, none⟩ = some (.pointer (some ⟨L.S, 0, none⟩)) ∧ (World.cell? w' ⟨kb, 0, none⟩ = some (.int .i64 2) ∧ World.cell? w' ⟨kb, 1, none⟩ = some (.int .i64 (R : Int)) ∧ World.cell? w' ⟨kb, 2, none⟩ = some (.int .i64 0) ∧ World.cell? w' ⟨kb, 3, none⟩ = some (.int .i64 0) ∧ World.cell? w' ⟨kb, 4, none⟩ = some (.int .u32 0))) (by kernel_rfl) (by rw [← hwD]; exact ⟨HWD.out.mm.m0, HKD.out.k5⟩) (fun hHeld => ?_)
      rw [← hwD] at hHeld ⊢
      clear hwD
      refine wpAnyH_take (i := 0) (v := ?_) (by rfl) (by kernel_rfl) (by kernel_rfl) (by kernel_rfl) (fun _ _ _ h => h) (Or.inl ⟨by kernel_rfl, ?_⟩) (by assumption) ?_; rotate_left 1; (focus (intro w hSw; (try dsimp only at hSw); simp only [List.getElem_toArray, List.getElem_cons_succ, List.getElem_cons_zero]; all_goals go_simp; all_goals (try with_reducible rfl))); (try simp only [Act.put, List.getElem_toArray, List.getElem_cons_succ, List.getElem_cons_zero, List.setIfInBounds_toArray, List.set_cons_zero, List.set_cons_succ])
      refine wpAnyH_take (i := 1) (v := ?_) (by rfl) (by kernel_rfl) (by kernel_rfl) (by kernel_rfl) (fun _ _ _ h => h) (Or.inl ⟨by kernel_rfl, ?_⟩) (by assumption) ?_; rotate_left 1; (focus (intro w hSw; (try dsimp only at hSw); simp only [List.getElem_toArray, List.getElem_cons_succ, List.getElem_cons_zero]; all_goals go_simp; all_goals (try with_reducible rfl))); (try simp only [Act.put, List.getElem_toArray, List.getElem_cons_succ, List.getElem_cons_zero, List.setIfInBounds_toArray, List.set_cons_zero, List.set_cons_succ])
      refine wpAnyH_take (i := 2) (v := ?_) (by rfl) (by kernel_rfl) (by kernel_rfl) (by kernel_rfl) (fun _ _ _ h => h) (Or.inl ⟨by kernel_rfl, ?_⟩) (by assumption) ?_; rotate_left 1; (focus (intro w hSw; (try dsimp only at hSw); simp only [List.getElem_toArray, List.getElem_cons_succ, List.getElem_cons_zero]; all_goals go_simp; all_goals (try with_reducible rfl))); (try simp only [Act.put, List.getElem_toArray, List.getElem_cons_succ, List.getElem_cons_zero, List.setIfInBounds_toArray, List.set_cons_zero, List.set_cons_succ])
      refine wpAnyH_take (i := 3) (v := ?_) (by rfl) (by kernel_rfl) (by kernel_rfl) (by kernel_rfl) (fun _ _ _ h => h) (Or.inl ⟨by kernel_rfl, ?_⟩) (by assumption) ?_; rotate_left 1; (focus (intro w hSw; (try dsimp only at hSw); simp only [List.getElem_toArray, List.getElem_cons_succ, List.getElem_cons_zero]; all_goals go_simp; all_goals (try with_reducible rfl))); (try simp only [Act.put, List.getElem_toArray, List.getElem_cons_succ, List.getElem_cons_zero, List.setIfInBounds_toArray, List.set_cons_zero, List.set_cons_succ])
      refine wpAnyH_take (i := 4) (v := ?_) (by rfl) (by kernel_rfl) (by kernel_rfl) (by kernel_rfl) (fun _ _ _ h => h) (Or.inl ⟨by kernel_rfl, ?_⟩) (by assumption) ?_; rotate_left 1; (focus (intro w hSw; (try dsimp only at hSw); simp only [List.getElem_toArray, List.getElem_cons_succ, List.getElem_cons_zero]; all_goals go_simp; all_goals (try with_reducible rfl))); (try simp only [Act.put, List.getElem_toArray, List.getElem_cons_succ, List.getElem_cons_zero, List.setIfInBounds_toArray, List.set_cons_zero, List.set_cons_succ])
      refine wpAnyH_take (i := 5) (v := ?_) (by rfl) (by kernel_rfl) (by kernel_rfl) (by kernel_rfl) (fun _ _ _ h => h) (Or.inl ⟨by kernel_rfl, ?_⟩) (by assumption) ?_; rotate_left 1; (focus (intro w hSw; (try dsimp only at hSw); simp only [List.getElem_toArray, List.getElem_cons_succ, List.getElem_cons_zero]; all_goals go_simp; all_goals (try with_reducible rfl))); (try simp only [Act.put, List.getElem_toArray, List.getElem_cons_succ, List.getElem_cons_zero, List.setIfInBounds_toArray, List.set_cons_zero, List.set_cons_succ])
      refine wpAnyH_take (i := 6) (v := ?_) (by rfl) (by kernel_rfl) (by kernel_rfl) (by kernel_rfl) (fun _ _ _ h => h) (Or.inl ⟨by kernel_rfl, ?_⟩) (by assumption) ?_; rotate_left 1; (focus (intro w hSw; (try dsimp only at hSw); simp only [List.getElem_toArray, List.getElem_cons_succ, List.getElem_cons_zero]; all_goals go_simp; all_goals (try with_reducible rfl))); (try simp only [Act.put, List.getElem_toArray, List.getElem_cons_succ, List.getElem_cons_zero, List.setIfInBounds_toArray, List.set_cons_zero, List.set_cons_succ])
      refine wpAnyH_take (i := 7) (v := ?_) (by rfl) (by kernel_rfl) (by kernel_rfl) (by kernel_rfl) (fun _ _ _ h => h) (Or.inl ⟨by kernel_rfl, ?_⟩) (by assumption) ?_; rotate_left 1; (focus (intro w hSw; (try dsimp only at hSw); simp only [List.getElem_toArray, List.getElem_cons_succ, List.getElem_cons_zero]; all_goals go_simp; all_goals (try with_reducible rfl))); (try simp only [Act.put, List.getElem_toArray, List.getElem_cons_succ, List.getElem_cons_zero, List.setIfInBounds_toArray, List.set_cons_zero, List.set_cons_succ])
      refine wpAnyH_take (i := 8) (v := ?_) (by rfl) (by kernel_rfl) (by kernel_rfl) (by kernel_rfl) (fun _ _ _ h => h) (Or.inl ⟨by kernel_rfl, ?_⟩) (by assumption) ?_; rotate_left 1; (focus (intro w hSw; (try dsimp only at hSw); simp only [List.getElem_toArray, List.getElem_cons_succ, List.getElem_cons_zero]; all_goals go_simp; all_goals (try with_reducible rfl))); (try simp only [Act.put, List.getElem_toArray, List.getElem_cons_succ, List.getElem_cons_zero, List.setIfInBounds_toArray, List.set_cons_zero, List.set_cons_succ])
      refine wpAnyH_take (i := 9) (v := ?_) (by rfl) (by kernel_rfl) (by kernel_rfl) (by kernel_rfl) (fun _ _ _ h => h) (Or.inl ⟨by kernel_rfl, ?_⟩) (by assumption) ?_; rotate_left 1; (focus (intro w hSw; (try dsimp only at hSw); simp only [List.getElem_toArray, List.getElem_cons_succ, List.getElem_cons_zero]; all_goals go_simp; all_goals (try with_reducible rfl))); (try simp only [Act.put, List.getElem_toArray, List.getElem_cons_succ, List.getElem_cons_zero, List.setIfInBounds_toArray, List.set_cons_zero, List.set_cons_succ])
      refine wpAnyH_take (i := 10) (v := ?_) (by rfl) (by kernel_rfl) (by kernel_rfl) (by kernel_rfl) (fun _ _ _ h => h) (Or.inl ⟨by kernel_rfl, ?_⟩) (by assumption) ?_; rotate_left 1; (focus (intro w hSw; (try dsimp only at hSw); simp only [List.getElem_toArray, List.getElem_cons_succ, List.getElem_cons_zero]; all_goals go_simp; all_goals (try with_reducible rfl))); (try simp only [Act.put, List.getElem_toArray, List.getElem_cons_succ, List.getElem_cons_zero, List.setIfInBounds_toArray, List.set_cons_zero, List.set_cons_succ])
      refine wpAnyH_take (i := 11) (v := ?_) (by rfl) (by kernel_rfl) (by kernel_rfl) (by kernel_rfl) (fun _ _ _ h => h) (Or.inl ⟨by kernel_rfl, ?_⟩) (by assumption) ?_; rotate_left 1; (focus (intro w hSw; (try dsimp only at hSw); simp only [List.getElem_toArray, List.getElem_cons_succ, List.getElem_cons_zero]; all_goals go_simp; all_goals (try with_reducible rfl))); (try simp only [Act.put, List.getElem_toArray, List.getElem_cons_succ, List.getElem_cons_zero, List.setIfInBounds_toArray, List.set_cons_zero, List.set_cons_succ])
      refine wpAnyH_take (i := 12) (v := ?_) (by rfl) (by kernel_rfl) (by kernel_rfl) (by kernel_rfl) (fun _ _ _ h => h) (Or.inl ⟨by kernel_rfl, ?_⟩) (by assumption) ?_; rotate_left 1; (focus (intro w hSw; (try dsimp only at hSw); simp only [List.getElem_toArray, List.getElem_cons_succ, List.getElem_cons_zero]; all_goals go_simp; all_goals (try with_reducible rfl))); (try simp only [Act.put, List.getElem_toArray, List.getElem_cons_succ, List.getElem_cons_zero, List.setIfInBounds_toArray, List.set_cons_zero, List.set_cons_succ])
      refine wpAnyH_take (i := 13) (v := ?_) (by rfl) (by kernel_rfl) (by kernel_rfl) (by kernel_rfl) (fun _ _ _ h => h) (Or.inl ⟨by kernel_rfl, ?_⟩) (by assumption) ?_; rotate_left 1; (focus (intro w hSw; (try dsimp only at hSw); simp only [List.getElem_toArray, List.getElem_cons_succ, List.getElem_cons_zero]; all_goals go_simp; all_goals (try with_reducible rfl))); (try simp only [Act.put, List.getElem_toArray, List.getElem_cons_succ, List.getElem_cons_zero, List.setIfInBounds_toArray, List.set_cons_zero, List.set_cons_succ])
      refine wpAnyH_take (i := 14) (v := ?_) (by rfl) (by kernel_rfl) (by kernel_rfl) (by kernel_rfl) (fun _ _ _ h => h) (Or.inl ⟨by kernel_rfl, ?_⟩) (by assumption) ?_; rotate_left 1; (focus (intro w hSw; (try dsimp only at hSw); simp only [List.getElem_toArray, List.getElem_cons_succ, List.getElem_cons_zero]; all_goals go_simp; all_goals (try with_reducible rfl))); (try simp only [Act.put, List.getElem_toArray, List.getElem_cons_succ, List.getElem_cons_zero, List.setIfInBounds_toArray, List.set_cons_zero, List.set_cons_succ])
      refine wpAnyH_take (i := 15) (v := ?_) (by rfl) (by kernel_rfl) (by kernel_rfl) (by kernel_rfl) (fun _ _ _ h => h) (Or.inl ⟨by kernel_rfl, ?_⟩) (by assumption) ?_; rotate_left 1; (focus (intro w hSw; (try dsimp only at hSw); simp only [List.getElem_toArray, List.getElem_cons_succ, List.getElem_cons_zero]; all_goals go_simp; all_goals (try with_reducible rfl))); (try simp only [Act.put, List.getElem_toArray, List.getElem_cons_succ, List.getElem_cons_zero, List.setIfInBounds_toArray, List.set_cons_zero, List.set_cons_succ])
      refine wpAnyH_take (i := 16) (v := ?_) (by rfl) (by kernel_rfl) (by kernel_rfl) (by kernel_rfl) (fun _ _ _ h => h) (Or.inl ⟨by kernel_rfl, ?_⟩) (by assumption) ?_; rotate_left 1; (focus (intro w hSw; (try dsimp only at hSw); simp only [List.getElem_toArray, List.getElem_cons_succ, List.getElem_cons_zero]; all_goals go_simp; all_goals (try with_reducible rfl))); (try simp only [Act.put, List.getElem_toArray, List.getElem_cons_succ, List.getElem_cons_zero, List.setIfInBounds_toArray, List.set_cons_zero, List.set_cons_succ])
      refine wpAnyH_take (i := 17) (v := ?_) (by rfl) (by kernel_rfl) (by kernel_rfl) (by kernel_rfl) (fun _ _ _ h => h) (Or.inl ⟨by kernel_rfl, ?_⟩) (by assumption) ?_; rotate_left 1; (focus (intro w hSw; (try dsimp only at hSw); simp only [List.getElem_toArray, List.getElem_cons_succ, List.getElem_cons_zero]; all_goals go_simp; all_goals (try with_reducible rfl))); (try simp only [Act.put, List.getElem_toArray, List.getElem_cons_succ, List.getElem_cons_zero, List.setIfInBounds_toArray, List.set_cons_zero, List.set_cons_succ])
      refine wpAnyH_take (i := 18) (v := ?_) (by rfl) (by kernel_rfl) (by kernel_rfl) (by kernel_rfl) (fun _ _ _ h => h) (Or.inl ⟨by kernel_rfl, ?_⟩) (by assumption) ?_; rotate_left 1; (focus (intro w hSw; (try dsimp only at hSw); simp only [List.getElem_toArray, List.getElem_cons_succ, List.getElem_cons_zero]; all_goals go_simp; all_goals (try with_reducible rfl))); (try simp only [Act.put, List.getElem_toArray, List.getElem_cons_succ, List.getElem_cons_zero, List.setIfInBounds_toArray, List.set_cons_zero, List.set_cons_succ])
      refine wpAnyH_take (i := 19) (v := ?_) (by rfl) (by kernel_rfl) (by kernel_rfl) (by kernel_rfl) (fun _ _ _ h => h) (Or.inl ⟨by kernel_rfl, ?_⟩) (by assumption) ?_; rotate_left 1; (focus (intro w hSw; (try dsimp only at hSw); simp only [List.getElem_toArray, List.getElem_cons_succ, List.getElem_cons_zero]; all_goals go_simp; all_goals (try with_reducible rfl))); (try simp only [Act.put, List.getElem_toArray, List.getElem_cons_succ, List.getElem_cons_zero, List.setIfInBounds_toArray, List.set_cons_zero, List.set_cons_succ])
      refine wpAnyH_take (i := 20) (v := ?_) (by rfl) (by kernel_rfl) (by kernel_rfl) (by kernel_rfl) (fun _ _ _ h => h) (Or.inl ⟨by kernel_rfl, ?_⟩) (by assumption) ?_; rotate_left 1; (focus (intro w hSw; (try dsimp only at hSw); simp only [List.getElem_toArray, List.getElem_cons_succ, List.getElem_cons_zero]; all_goals go_simp; all_goals (try with_reducible rfl))); (try simp only [Act.put, List.getElem_toArray, List.getElem_cons_succ, List.getElem_cons_zero, List.setIfInBounds_toArray, List.set_cons_zero, List.set_cons_succ])
      refine wpAnyH_ready (rs := [21]) (by kernel_rfl) (by simp) ?_; refine AllReadyH.cons (by rfl) (fun K hK => ?_) AllReadyH.nil; rw [if_pos (by kernel_rfl)]; simp only [List.getElem_toArray, List.getElem_cons_succ, List.getElem_cons_zero]
      go_wp2_with (first
        | (go_at_call 32; (with_reducible refine (HLi.out _ _ HWD.out).mono ?_); rintro e w13 ⟨rfl, hb⟩; have HW13 := Lib.hid (HWD.out.below hb); have HK13 := Lib.hid (HKD.out.below hb); clear hb))
      refine hK.out _ _ ⟨HW13.out.mm.m0, HK13.out.k5⟩ (fun hHeld => ?_)
      clear hK K
      (try simp only [Act.put, List.getElem_toArray, List.getElem_cons_succ, List.getElem_cons_zero, List.setIfInBounds_toArray, List.set_cons_zero, List.set_cons_succ])
      refine wpAnyH_take (i := 22) (v := ?_) (by rfl) (by kernel_rfl) (by kernel_rfl) (by kernel_rfl) (fun _ _ _ h => h) (Or.inl ⟨by kernel_rfl, ?_⟩) (by assumption) ?_; rotate_left 1; (focus (intro w hSw; (try dsimp only at hSw); simp only [List.getElem_toArray, List.getElem_cons_succ, List.getElem_cons_zero]; all_goals go_simp; all_goals (try with_reducible rfl))); (try simp only [Act.put, List.getElem_toArray, List.getElem_cons_succ, List.getElem_cons_zero, List.setIfInBounds_toArray, List.set_cons_zero, List.set_cons_succ])
      refine wpAnyH_take (i := 23) (v := ?_) (by rfl) (by kernel_rfl) (by kernel_rfl) (by kernel_rfl) (fun _ _ _ h => h) (Or.inl ⟨by kernel_rfl, ?_⟩) (by assumption) ?_; rotate_left 1; (focus (intro w hSw; (try dsimp only at hSw); simp only [List.getElem_toArray, List.getElem_cons_succ, List.getElem_cons_zero]; all_goals go_simp; all_goals (try with_reducible rfl))); (try simp only [Act.put, List.getElem_toArray, List.getElem_cons_succ, List.getElem_cons_zero, List.setIfInBounds_toArray, List.set_cons_zero, List.set_cons_succ])
      refine wpAnyH_take (i := 24) (v := ?_) (by rfl) (by kernel_rfl) (by kernel_rfl) (by kernel_rfl) (fun _ _ _ h => h) (Or.inl ⟨by kernel_rfl, ?_⟩) (by assumption) ?_; rotate_left 1; (focus (intro w hSw; (try dsimp only at hSw); simp only [List.getElem_toArray, List.getElem_cons_succ, List.getElem_cons_zero]; all_goals go_simp; all_goals (try with_reducible rfl))); (try simp only [Act.put, List.getElem_toArray, List.getElem_cons_succ, List.getElem_cons_zero, List.setIfInBounds_toArray, List.set_cons_zero, List.set_cons_succ])
      refine wpAnyH_done (by kernel_rfl) ?_ _
      refine NoPanic.normal ?_
      go_wp2_with fail
      go_ret
      exact ⟨rfl, HB1.out.trans (HW13.out.bel.mono HB1.out.size)⟩
theorem walk_BankRoom (a0 : Int) (w : World) (w0 : (Lit.int .i64 a0).wf = true) (hL : laidMetH Tryd.prog Rows.bankRoomRow.laid w) :
    Calls Tryd.prog 11 #[.int .i64 a0] w fun e w' => e = .returned (.bool true) ∧ Below w.heap.size w w' := by
  have hS := (sen_of hL (by intro n hn; simp only [List.mem_cons, List.not_mem_nil, or_false] at hn; rcases hn with rfl | rfl | rfl | rfl | rfl | rfl | rfl | rfl | rfl | rfl | rfl | rfl <;> exact ⟨_, by repeat (first | exact List.Mem.head _ | apply List.Mem.tail)⟩))
  clear hL
  obtain ⟨R, hR, CR⟩ := number_nat a0 6 6 rfl (by decide) (by decide) (fit64 w0).1 (fit64 w0).2
  exact broom_walk a0 (R + 1) R (Lib.hid rfl) hR (Lib.hid CR) w _ hS
end Go.Proofs.YtkogmhgpkacehaaDoor
