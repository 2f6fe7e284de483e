/-
  BkW as one.
-/
import Derived.Test.YtkogmhgpkacehaaDoorP11
namespace Go.Proofs.YtkogmhgpkacehaaDoor
open Go.ChangeShapes Go.WideShapes Go.ChangeAt Go.RowKit
set_option linter.unusedVariables false
set_option linter.unusedSimpArgs false
section
variable {w0 w w' : World} {L : BLoc} {D : BSt}
theorem BW.title1 (h : BW w0 w L D) (j : Nat) (hj : j < 256) : TiAt w L 2 L.G1 j (D.o1 j) (D.v1 j) := ⟨.inl ⟨rfl, rfl⟩, h.kk.t1.lt.2, (h.kk.t1.ti j hj).1, (h.kk.t1.ti j hj).2⟩
theorem BW.title2 (h : BW w0 w L D) (j : Nat) (hj : j < 256) : TiAt w L 3 L.G2 j (D.o2 j) (D.v2 j) := ⟨.inr (.inl ⟨rfl, rfl⟩), h.kk.t2.lt.2, (h.kk.t2.ti j hj).1, (h.kk.t2.ti j hj).2⟩
theorem BW.title3 (h : BW w0 w L D) (j : Nat) (hj : j < 256) : TiAt w L 4 L.G3 j (D.o3 j) (D.v3 j) := ⟨.inr (.inr ⟨by decide, by decide, rfl⟩), h.kk.t3.lt.2, (h.kk.t3.ti j hj).1, (h.kk.t3.ti j hj).2⟩
end
theorem bowner_x {w0 : World} {L : BLoc} {D : BSt} (k0 x : Int) (k1 : Nat) (hx : Hid (x = (k1 : Int))) (k2 k3 k4 : Int) (G q : Nat) (hj2 : k1 < 256) (hq : q < D.nb) (ht : Hid (liveK L D k0 k1 k2 = true)) (w : World) (h : BW w0 w L D) (hT : TiAt w L k0 G k1 q k2) :
    Calls Tryd.prog 88 #[.pointer (some ⟨L.P, 0, none⟩), (Value.agg #[.int .i64 k0, .int .i64 x, .int .i64 k2, .int .i64 k3, .int .u32 k4])] w fun e w' => e = .returned (.int .i64 (q : Int)) ∧ Below w.heap.size w w' := by
  rw [hx.out]; exact bowner_live k0 k1 k2 k3 k4 G q hj2 hq ht w h hT
theorem bgive_x {w0 : World} {L : BLoc} {D : BSt} {D2 : BSt} (k0 x : Int) (k1 : Nat) (hx : Hid (x = (k1 : Int))) (k2 k3 k4 : Int) (G q : Nat) (hj2 : k1 < 256) (hq : q < D.nb) (ht : Hid (liveK L D k0 k1 k2 = true)) (h2 : Hid (D2.nb = D.nb ∧ D2.pr = D.pr ∧ D2.us = D.us)) (hu : Hid (∀ i, i < L.n → -1000000 ≤ D.us i ∧ D.us i ≤ 1000000)) (w : World) (h : BW w0 w L D) (hT : TiAt w L k0 G k1 q k2)
    (hgb : ∀ W, BW w0 W L D → Calls Tryd.prog 158 #[.pointer (some ⟨L.P, 0, none⟩), (Value.agg #[.int .i64 k0, .int .i64 k1, .int .i64 k2, .int .i64 k3, .int .u32 k4])] W fun e w' => e = .returned (.tuple #[]) ∧ BW w0 w' L D2 ∧ UpT L.T W w') :
    Calls Tryd.prog 89 #[.pointer (some ⟨L.P, 0, none⟩), .int .i64 (q : Int), (Value.agg #[.int .i64 k0, .int .i64 x, .int .i64 k2, .int .i64 k3, .int .u32 k4])] w fun e w' => e = .returned .nilIface ∧ BW w0 w' L { D2 with us := addL D.us (chL D.pr q) (-1) } ∧ UpT L.T w w' := by
  rw [hx.out]; exact bgive_ok k0 k1 k2 k3 k4 G q hj2 hq ht h2 hu w h hT hgb
theorem bgive_ownx {w0 : World} {L : BLoc} {D : BSt} (k0 x : Int) (k1 : Nat) (hx : Hid (x = (k1 : Int))) (k2 k3 k4 : Int) (G q q2 : Nat) (hj2 : k1 < 256) (hq : q < D.nb) (hq2 : q2 < D.nb) (hne : q2 ≠ q) (ht : Hid (liveK L D k0 k1 k2 = true)) (v : Value) (w : World) (h : BW w0 w L D) (hT : TiAt w L k0 G k1 q k2) (hE : w.cell? ⟨3, 0, none⟩ = some v) (hlt : 3 < w.heap.size) :
    Calls Tryd.prog 89 #[.pointer (some ⟨L.P, 0, none⟩), .int .i64 (q2 : Int), (Value.agg #[.int .i64 k0, .int .i64 x, .int .i64 k2, .int .i64 k3, .int .u32 k4])] w fun e w' => e = .returned v ∧ Below w.heap.size w w' := by
  rw [hx.out]; exact bgive_own k0 k1 k2 k3 k4 G q q2 hj2 hq hq2 hne ht v w h hT hE hlt
theorem anyfull_no (us lm : Nat → Int) (l : List Int) (n : Nat) (hl : ∀ z, z ∈ l → 0 ≤ z ∧ z < n) (h : ∀ i, i < n → us i < lm i) : l.any (fullB us lm) = false := by
  rw [List.any_eq_false]
  intro z hz
  have h1 := hl z hz
  have h2 := h z.toNat (by omega)
  simp [fullB]
  omega
theorem addL_back (us : Nat → Int) (l : List Int) (x y : Int) (hxy : x + y = 0) : addL (addL us l x) l y = us := by
  funext i
  unfold addL
  split
  · omega
  · rfl
/-- Four banks: two within one another below the first, one beside. -/
structure D4 (D : BSt) : Prop where
  nb : D.nb = 4
  us : D.us = fun _ => 0
  lm : ∀ i, i < 4 → D.lm i = 10
  pk : PrOk 4 D.pr
  nt : D.nt = fun _ => false
  nv : D.nv = fun _ => 0
  pt : D.pt = fun _ => false
  pv : D.pv = fun _ => 0
  dt : D.dt = fun _ => false
  dv : D.dv = fun _ => 0
def d4 : BSt := openedB (openedB (openedB (openedB st0 (-1) 10) 0 10) 1 10) (-1) 10
theorem d4_pr1 : (openedB st0 (-1) 10).pr = pD 1 := by
  show upd (fun _ => 0) 0 (-1) = _
  rw [← pD_put 0 (-1) (by decide)]
  rfl
theorem d4_pr2 : (openedB (openedB st0 (-1) 10) 0 10).pr = pD 2 := by
  show upd (openedB st0 (-1) 10).pr 1 0 = _
  rw [d4_pr1]; exact pD_put 1 0 (by decide)
theorem d4_pr3 : (openedB (openedB (openedB st0 (-1) 10) 0 10) 1 10).pr = pD 3 := by
  show upd (openedB (openedB st0 (-1) 10) 0 10).pr 2 1 = _
  rw [d4_pr2]; exact pD_put 2 1 (by decide)
theorem d4_ch1 : (chL (openedB st0 (-1) 10).pr ((0 : Nat) : Int)).length < 8 := by rw [d4_pr1, (pD_chain 1 (by decide) 0 (by decide)).1]; decide
theorem d4_ch2 : (chL (openedB (openedB st0 (-1) 10) 0 10).pr ((1 : Nat) : Int)).length < 8 := by rw [d4_pr2, (pD_chain 2 (by decide) 1 (by decide)).1]; decide
theorem d4_n1 : (openedB st0 (-1) 10).nb = 1 := rfl
theorem d4_n2 : (openedB (openedB st0 (-1) 10) 0 10).nb = 2 := rfl
theorem d4_n3 : (openedB (openedB (openedB st0 (-1) 10) 0 10) 1 10).nb = 3 := rfl
theorem d4_i1 : (((openedB st0 (-1) 10).nb : Nat) : Int) = 1 := rfl
theorem d4_i2 : (((openedB (openedB st0 (-1) 10) 0 10).nb : Nat) : Int) = 2 := rfl
theorem d4_i3 : (((openedB (openedB (openedB st0 (-1) 10) 0 10) 1 10).nb : Nat) : Int) = 3 := rfl
theorem z_cast : (0 : Int) = ((0 : Nat) : Int) := rfl
theorem o_cast : (1 : Int) = ((1 : Nat) : Int) := rfl
theorem d4_is : D4 d4 := by
  refine ⟨rfl, ?_, ?_, ?_, rfl, rfl, rfl, rfl, rfl, rfl⟩
  · funext i
    show upd (upd (upd (upd (fun _ => 0) 0 0) 1 0) 2 0) 3 0 i = 0
    simp [upd]
  · intro i hi
    show upd (upd (upd (upd (fun _ => 0) 0 10) 1 10) 2 10) 3 10 i = 10
    rcases (show i = 0 ∨ i = 1 ∨ i = 2 ∨ i = 3 by omega) with rfl | rfl | rfl | rfl <;> simp [upd]
  · show PrOk 4 (upd (openedB (openedB (openedB st0 (-1) 10) 0 10) 1 10).pr 3 (-1))
    rw [d4_pr3]
    exact prok_put (pD_ok 3) (-1) (by decide) (by decide)
theorem bgive_y {w0 : World} {L : BLoc} {D : BSt} {D2 : BSt} (k0 x : Int) (k1 : Nat) (hx : Hid (x = (k1 : Int))) (k2 k3 k4 : Int) (G q : Nat) (y : Int) (hy : Hid (y = (q : Int))) (hj2 : k1 < 256) (hq : q < D.nb) (ht : Hid (liveK L D k0 k1 k2 = true)) (h2 : Hid (D2.nb = D.nb ∧ D2.pr = D.pr ∧ D2.us = D.us)) (hu : Hid (∀ i, i < L.n → -1000000 ≤ D.us i ∧ D.us i ≤ 1000000)) (w : World) (h : BW w0 w L D) (hT : TiAt w L k0 G k1 q k2)
    (hgb : ∀ W, BW w0 W L D → Calls Tryd.prog 158 #[.pointer (some ⟨L.P, 0, none⟩), (Value.agg #[.int .i64 k0, .int .i64 k1, .int .i64 k2, .int .i64 k3, .int .u32 k4])] W fun e w' => e = .returned (.tuple #[]) ∧ BW w0 w' L D2 ∧ UpT L.T W w') :
    Calls Tryd.prog 89 #[.pointer (some ⟨L.P, 0, none⟩), .int .i64 y, (Value.agg #[.int .i64 k0, .int .i64 x, .int .i64 k2, .int .i64 k3, .int .u32 k4])] w fun e w' => e = .returned .nilIface ∧ BW w0 w' L { D2 with us := addL D.us (chL D.pr q) (-1) } ∧ UpT L.T w w' := by
  rw [hy.out]; exact bgive_x k0 x k1 hx k2 k3 k4 G q hj2 hq ht h2 hu w h hT hgb
set_option maxRecDepth 100000 in
set_option maxHeartbeats 8000000 in
theorem bowns_0d (a0 a1 a2 : Int) (p q : Nat) (hp : p < 4) (hq : q < 4) (hpq : q ≠ p) (CR : Hid (∀ w, Calls Tryd.prog 71 #[.int .i64 a0, .int .i64 3] w fun e w' => e = .returned (.int .i64 0) ∧ w = w')) (CP : Hid (∀ w, Calls Tryd.prog 71 #[.int .i64 a1, .int .i64 4] w fun e w' => e = .returned (.int .i64 (p : Int)) ∧ w = w')) (CQ : Hid (∀ w, Calls Tryd.prog 71 #[.int .i64 a2, .int .i64 4] w fun e w' => e = .returned (.int .i64 (q : Int)) ∧ w = w')) (w : World) (A : Nat → Addr) (hS : Sen A w) : Calls Tryd.prog 10 #[.int .i64 a0, .int .i64 a1, .int .i64 a2] w fun e w' => e = .returned (.bool true) ∧ Below w.heap.size w w' := by
  have HS := Lib.hid hS
  have HD := Lib.hid d4_is
  clear hS
  have e1 : ((q : Int) != (p : Int)) = true := by rw [bne_iff_ne]; omega
  go_enter Tryd.func10, Tryd.ntmps10
  go_upto_region 15 with (first
    | (go_at_call 73; (with_reducible refine (bfirst_is _ A HS.out).mono ?_); rintro e w1 ⟨rfl, hb1⟩; have HB1 := Lib.hid hb1; have HS1 := Lib.hid (HS.out.below hb1); clear hb1)
    | (go_at_call 74; (with_reducible refine (made18_is 4 4 4 4 4 4 4 4 (Lib.hid ⟨rfl, rfl, rfl, rfl⟩) (by decide) (by decide) (by decide) (by decide) _).mono ?_); rintro e w2 ⟨L, rfl, hW, hn⟩; have HW1 := Lib.hid hW; have HN := Lib.hid hn.out; clear hW hn)
    | (go_at_call 75; (with_reducible refine (bwroot_ok 10 (by decide) (by decide) 0 (Lib.hid rfl) (by rw [st0_nb]; have := HN.out; omega) _ HW1.out).mono ?_); rintro e w3 ⟨rfl, hW, hu⟩; have HW2 := Lib.hid hW; clear hW hu)
    | (go_at_call 76; (with_reducible refine (bwsub_ok 0 0 (Lib.hid z_cast) 10 (by decide) (by decide) (by rw [d4_n1]; decide) 1 (Lib.hid d4_i1) (by rw [d4_n1]; have := HN.out; omega) (Lib.hid d4_ch1) _ HW2.out).mono ?_); rintro e w3 ⟨rfl, hW, hu⟩; have HW3 := Lib.hid hW; clear hW hu)
    | (go_at_call 76; (with_reducible refine (bwsub_ok 1 1 (Lib.hid o_cast) 10 (by decide) (by decide) (by rw [d4_n2]; decide) 2 (Lib.hid d4_i2) (by rw [d4_n2]; have := HN.out; omega) (Lib.hid d4_ch2) _ HW3.out).mono ?_); rintro e w3 ⟨rfl, hW, hu⟩; have HW4 := Lib.hid hW; clear hW hu)
    | (go_at_call 75; (with_reducible refine (bwroot_ok 10 (by decide) (by decide) 3 (Lib.hid d4_i3) (by rw [d4_n3]; have := HN.out; omega) _ HW4.out).mono ?_); rintro e w3 ⟨rfl, hW, hu⟩; have HW5 : Hid (BW w1 w3 L d4) := Lib.hid hW; clear hW hu HW1 HW2 HW3 HW4)
    | (go_at_call 71; (with_reducible refine (CR.out _).mono ?_); rintro e w4 ⟨rfl, rfl⟩)
    | (go_at_call 71; (with_reducible refine (CP.out _).mono ?_); rintro e w4 ⟨rfl, rfl⟩)
    | (go_at_call 71; (with_reducible refine (CQ.out _).mono ?_); rintro e w4 ⟨rfl, rfl⟩))
  generalize hw5 : World.alloc w3 _ = w5
  have HB5 : Hid (Below w3.heap.size w3 w5) := Lib.hid (by rw [← hw5]; exact (Below.refl _ _).alloc (Nat.le_refl _) _)
  obtain ⟨kb, hkb⟩ : ∃ kb, kb = w3.heap.size := ⟨_, rfl⟩
  have HK5 : Hid (KeyC w5 kb 2 0 0 0 0) := Lib.hid (by rw [← hw5, hkb]; exact KeyC.new w3 2 0 0 0 0 _)
  have HKb : Hid (L.T ≤ kb) := Lib.hid (by rw [hkb]; exact HW5.out.tw)
  rw [← hkb]
  clear hw5 hkb
  have HW6 := Lib.hid (HW5.out.below HB5.out)
  have HIn := Lib.hid (chL_in (n := 4) HD.out.pk (Nat.le_refl _) (by decide) p hp)
  have HFull : Hid ((chL d4.pr (p : Int)).any (fullB d4.us d4.lm) = false) := Lib.hid (anyfull_no _ _ _ 4 HIn.out.1 (fun i hi => by simp [HD.out.us, HD.out.lm i hi]))
  have HU0 : Hid (∀ i, i < L.n → -1000000 ≤ d4.us i ∧ d4.us i ≤ 1000000) := Lib.hid (fun i _ => by simp [HD.out.us])
  have HEr : Hid (ErrsAt (eV (sA A 1)) (eV (sA A 2)) w5) := Lib.hid (by have h := HS1.out.below HW6.out.bel; exact ⟨h.c1, h.c2, h.s1, h.s2⟩)
  obtain ⟨Db, HDb⟩ : ∃ Db, Hid (Db = boughtN d4 p 0 0 (freshV d4.nW 0 (kcs (fun _ _ => 0) 0))) := ⟨_, Lib.hid rfl⟩
  have HLv : Hid (liveK L Db 2 0 0 = true) := Lib.hid (by rw [HDb.out]; have := HN.out; simp [liveK, thereB, boughtN, HD.out.nv, upd]; omega)
  have hpb : p < Db.nb := by rw [HDb.out]; exact (by omega : p < 4)
  have hqb : q < Db.nb := by rw [HDb.out]; exact (by omega : q < 4)
  have HTi : Hid (∀ W, BW w1 W L Db → TiAt W L 2 L.G1 0 (p : Int) 0) := Lib.hid (fun W hW => by have h := hW.title1 0 (by decide); rw [show Db.o1 0 = (p : Int) by rw [HDb.out]; simp [boughtN, upd], show Db.v1 0 = 0 by rw [HDb.out]; simp [boughtN, upd]] at h; exact h)
  have HBuy := Lib.hid (bnode_ok p (by rw [HD.out.nb]; exact hp) _ _ none 0 0 (fun _ _ => 0) (Lib.hid (fun i hi => by omega)) (by decide) 0 (by have := HN.out; omega) (Lib.hid (by rw [HD.out.nt, HD.out.nv]; rfl)) (Lib.hid (by intro i hi; omega)) 0 (Lib.hid (by rw [HD.out.nv])) HFull HU0 w5 HW6.out HEr.out (srcv_none L w5 _))
  have q0 := HK5.out.c0; have q1 := HK5.out.c1; have q2 := HK5.out.c2; have q3 := HK5.out.c3; have q4 := HK5.out.c4
  go_wp2_with (first
    | (go_at_call 80; (with_reducible refine HBuy.out.mono ?_); rintro e w6 ⟨rfl, hW, hu⟩; rw [← HDb.out] at hW; have HW7 := Lib.hid hW; have HK7 := Lib.hid (HK5.out.upt hu HKb.out); clear hW hu; clear q0 q1 q2 q3 q4; have q0 := HK7.out.c0; have q1 := HK7.out.c1; have q2 := HK7.out.c2; have q3 := HK7.out.c3; have q4 := HK7.out.c4)
    | (go_at_call 88; (with_reducible refine (bowner_x 2 0 0 (Lib.hid rfl) 0 0 0 L.G1 p (by decide) hpb HLv _ HW7.out (HTi.out _ HW7.out)).mono ?_); rintro e w7 ⟨rfl, hb⟩; have HW8 := Lib.hid (HW7.out.below hb); have HK8 := Lib.hid (HK7.out.below hb); clear hb; clear q0 q1 q2 q3 q4; have q0 := HK8.out.c0; have q1 := HK8.out.c1; have q2 := HK8.out.c2; have q3 := HK8.out.c3; have q4 := HK8.out.c4)
    | (go_at_call 89; (with_reducible refine (bgive_ownx 2 0 0 (Lib.hid rfl) 0 0 0 L.G1 p q (by decide) hpb hqb hpq HLv (eV (sA A 7)) _ HW8.out (HTi.out _ HW8.out) (HS1.out.below HW8.out.bel).c7 (HS1.out.below HW8.out.bel).s7).mono ?_); rintro e w9 ⟨rfl, hb⟩; have HW9 := Lib.hid (HW8.out.below hb); have HK9 := Lib.hid (HK8.out.below hb); clear hb; clear q0 q1 q2 q3 q4; have q0 := HK9.out.c0; have q1 := HK9.out.c1; have q2 := HK9.out.c2; have q3 := HK9.out.c3; have q4 := HK9.out.c4)
    | (go_at_call 20; (with_reducible refine (is_sen A 7 108 (by decide) (Lib.hid (by decide)) _ (HS1.out.below HW9.out.bel)).mono ?_); rintro e w10 ⟨rfl, hb⟩; have HW10 := Lib.hid (HW9.out.below hb); have HK10 := Lib.hid (HK9.out.below hb); clear hb; clear q0 q1 q2 q3 q4; have q0 := HK10.out.c0; have q1 := HK10.out.c1; have q2 := HK10.out.c2; have q3 := HK10.out.c3; have q4 := HK10.out.c4)
    | (go_at_call 88; (with_reducible refine (bowner_x 2 0 0 (Lib.hid rfl) 0 0 0 L.G1 p (by decide) hpb HLv _ HW10.out (HTi.out _ HW10.out)).mono ?_); rintro e w11 ⟨rfl, hb⟩; have HW11 := Lib.hid (HW10.out.below hb); clear hb))
  go_ret
  exact ⟨rfl, HB1.out.trans (HW11.out.bel.mono HB1.out.size)⟩
set_option maxRecDepth 100000 in
set_option maxHeartbeats 8000000 in
theorem bowns_0s (a0 a1 a2 : Int) (p q : Nat) (hp : p < 4) (hq : q < 4) (hpq : q = p) (CR : Hid (∀ w, Calls Tryd.prog 71 #[.int .i64 a0, .int .i64 3] w fun e w' => e = .returned (.int .i64 0) ∧ w = w')) (CP : Hid (∀ w, Calls Tryd.prog 71 #[.int .i64 a1, .int .i64 4] w fun e w' => e = .returned (.int .i64 (p : Int)) ∧ w = w')) (CQ : Hid (∀ w, Calls Tryd.prog 71 #[.int .i64 a2, .int .i64 4] w fun e w' => e = .returned (.int .i64 (q : Int)) ∧ w = w')) (w : World) (A : Nat → Addr) (hS : Sen A w) : Calls Tryd.prog 10 #[.int .i64 a0, .int .i64 a1, .int .i64 a2] w fun e w' => e = .returned (.bool true) ∧ Below w.heap.size w w' := by
  have HS := Lib.hid hS
  have HD := Lib.hid d4_is
  clear hS
  have e1 : ((q : Int) != (p : Int)) = false := by rw [hpq]; simp
  go_enter Tryd.func10, Tryd.ntmps10
  go_upto_region 15 with (first
    | (go_at_call 73; (with_reducible refine (bfirst_is _ A HS.out).mono ?_); rintro e w1 ⟨rfl, hb1⟩; have HB1 := Lib.hid hb1; have HS1 := Lib.hid (HS.out.below hb1); clear hb1)
    | (go_at_call 74; (with_reducible refine (made18_is 4 4 4 4 4 4 4 4 (Lib.hid ⟨rfl, rfl, rfl, rfl⟩) (by decide) (by decide) (by decide) (by decide) _).mono ?_); rintro e w2 ⟨L, rfl, hW, hn⟩; have HW1 := Lib.hid hW; have HN := Lib.hid hn.out; clear hW hn)
    | (go_at_call 75; (with_reducible refine (bwroot_ok 10 (by decide) (by decide) 0 (Lib.hid rfl) (by rw [st0_nb]; have := HN.out; omega) _ HW1.out).mono ?_); rintro e w3 ⟨rfl, hW, hu⟩; have HW2 := Lib.hid hW; clear hW hu)
    | (go_at_call 76; (with_reducible refine (bwsub_ok 0 0 (Lib.hid z_cast) 10 (by decide) (by decide) (by rw [d4_n1]; decide) 1 (Lib.hid d4_i1) (by rw [d4_n1]; have := HN.out; omega) (Lib.hid d4_ch1) _ HW2.out).mono ?_); rintro e w3 ⟨rfl, hW, hu⟩; have HW3 := Lib.hid hW; clear hW hu)
    | (go_at_call 76; (with_reducible refine (bwsub_ok 1 1 (Lib.hid o_cast) 10 (by decide) (by decide) (by rw [d4_n2]; decide) 2 (Lib.hid d4_i2) (by rw [d4_n2]; have := HN.out; omega) (Lib.hid d4_ch2) _ HW3.out).mono ?_); rintro e w3 ⟨rfl, hW, hu⟩; have HW4 := Lib.hid hW; clear hW hu)
    | (go_at_call 75; (with_reducible refine (bwroot_ok 10 (by decide) (by decide) 3 (Lib.hid d4_i3) (by rw [d4_n3]; have := HN.out; omega) _ HW4.out).mono ?_); rintro e w3 ⟨rfl, hW, hu⟩; have HW5 : Hid (BW w1 w3 L d4) := Lib.hid hW; clear hW hu HW1 HW2 HW3 HW4)
    | (go_at_call 71; (with_reducible refine (CR.out _).mono ?_); rintro e w4 ⟨rfl, rfl⟩)
    | (go_at_call 71; (with_reducible refine (CP.out _).mono ?_); rintro e w4 ⟨rfl, rfl⟩)
    | (go_at_call 71; (with_reducible refine (CQ.out _).mono ?_); rintro e w4 ⟨rfl, rfl⟩))
  generalize hw5 : World.alloc w3 _ = w5
  have HB5 : Hid (Below w3.heap.size w3 w5) := Lib.hid (by rw [← hw5]; exact (Below.refl _ _).alloc (Nat.le_refl _) _)
  obtain ⟨kb, hkb⟩ : ∃ kb, kb = w3.heap.size := ⟨_, rfl⟩
  have HK5 : Hid (KeyC w5 kb 2 0 0 0 0) := Lib.hid (by rw [← hw5, hkb]; exact KeyC.new w3 2 0 0 0 0 _)
  have HKb : Hid (L.T ≤ kb) := Lib.hid (by rw [hkb]; exact HW5.out.tw)
  rw [← hkb]
  clear hw5 hkb
  have HW6 := Lib.hid (HW5.out.below HB5.out)
  have HIn := Lib.hid (chL_in (n := 4) HD.out.pk (Nat.le_refl _) (by decide) p hp)
  have HFull : Hid ((chL d4.pr (p : Int)).any (fullB d4.us d4.lm) = false) := Lib.hid (anyfull_no _ _ _ 4 HIn.out.1 (fun i hi => by simp [HD.out.us, HD.out.lm i hi]))
  have HU0 : Hid (∀ i, i < L.n → -1000000 ≤ d4.us i ∧ d4.us i ≤ 1000000) := Lib.hid (fun i _ => by simp [HD.out.us])
  have HEr : Hid (ErrsAt (eV (sA A 1)) (eV (sA A 2)) w5) := Lib.hid (by have h := HS1.out.below HW6.out.bel; exact ⟨h.c1, h.c2, h.s1, h.s2⟩)
  obtain ⟨Db, HDb⟩ : ∃ Db, Hid (Db = boughtN d4 p 0 0 (freshV d4.nW 0 (kcs (fun _ _ => 0) 0))) := ⟨_, Lib.hid rfl⟩
  have HLv : Hid (liveK L Db 2 0 0 = true) := Lib.hid (by rw [HDb.out]; have := HN.out; simp [liveK, thereB, boughtN, HD.out.nv, upd]; omega)
  have hpb : p < Db.nb := by rw [HDb.out]; exact (by omega : p < 4)
  have hqb : q < Db.nb := by rw [HDb.out]; exact (by omega : q < 4)
  have HTi : Hid (∀ W, BW w1 W L Db → TiAt W L 2 L.G1 0 (p : Int) 0) := Lib.hid (fun W hW => by have h := hW.title1 0 (by decide); rw [show Db.o1 0 = (p : Int) by rw [HDb.out]; simp [boughtN, upd], show Db.v1 0 = 0 by rw [HDb.out]; simp [boughtN, upd]] at h; exact h)
  obtain ⟨Dg, HDg⟩ : ∃ Dg, Hid (Dg = { Db with nt := upd Db.nt 0 false, nv := upd Db.nv 0 (0 + 1), o1 := upd Db.o1 0 (-1), v1 := upd Db.v1 0 0 }) := ⟨_, Lib.hid rfl⟩
  have HG2 : Hid (Dg.nb = Db.nb ∧ Dg.pr = Db.pr ∧ Dg.us = Db.us) := Lib.hid (by rw [HDg.out]; exact ⟨rfl, rfl, rfl⟩)
  have HUb : Hid (∀ i, i < L.n → -1000000 ≤ Db.us i ∧ Db.us i ≤ 1000000) := Lib.hid (fun i _ => by rw [HDb.out]; show -1000000 ≤ addL d4.us _ 1 i ∧ addL d4.us _ 1 i ≤ 1000000; rw [HD.out.us]; unfold addL; split <;> simp)
  have HGb : Hid (∀ W, BW w1 W L Db → Calls Tryd.prog 158 #[.pointer (some ⟨L.P, 0, none⟩), Value.agg #[.int .i64 2, .int .i64 ((0 : Nat) : Int), .int .i64 0, .int .i64 0, .int .u32 0]] W fun e w' => e = .returned (.tuple #[]) ∧ BW w1 w' L Dg ∧ UpT L.T W w') := Lib.hid (fun W hW => by rw [HDg.out]; exact bgb_node 0 0 0 0 (by decide) (by have := HN.out; omega) (Lib.hid (by rw [HDb.out]; simp [boughtN, upd])) (Lib.hid (by rw [HDb.out]; simp [boughtN, HD.out.nv])) (by decide) (by decide) W hW)
  obtain ⟨De, HDe⟩ : ∃ De, Hid (De = { Dg with us := addL Db.us (chL Db.pr (p : Int)) (-1) }) := ⟨_, Lib.hid rfl⟩
  have HDd : Hid (liveK L De 2 0 0 = false) := Lib.hid (by rw [HDe.out, HDg.out]; simp [liveK, thereB, upd])
  have hpe : p < De.nb := by rw [HDe.out, HDg.out]; exact hpb
  have h0e : 0 < De.nb := by omega
  have HUs : Hid (De.us 0 = 0) := Lib.hid (by rw [HDe.out, HDb.out]; show addL (addL d4.us (chL d4.pr (p : Int)) 1) (chL d4.pr (p : Int)) (-1) 0 = 0; rw [addL_back _ _ 1 (-1) (by decide), HD.out.us])
  have HBuy := Lib.hid (bnode_ok p (by rw [HD.out.nb]; exact hp) _ _ none 0 0 (fun _ _ => 0) (Lib.hid (fun i hi => by omega)) (by decide) 0 (by have := HN.out; omega) (Lib.hid (by rw [HD.out.nt, HD.out.nv]; rfl)) (Lib.hid (by intro i hi; omega)) 0 (Lib.hid (by rw [HD.out.nv])) HFull HU0 w5 HW6.out HEr.out (srcv_none L w5 _))
  have q0 := HK5.out.c0; have q1 := HK5.out.c1; have q2 := HK5.out.c2; have q3 := HK5.out.c3; have q4 := HK5.out.c4
  go_wp2_with (first
    | (go_at_call 80; (with_reducible refine HBuy.out.mono ?_); rintro e w6 ⟨rfl, hW, hu⟩; rw [← HDb.out] at hW; have HW7 := Lib.hid hW; have HK7 := Lib.hid (HK5.out.upt hu HKb.out); clear hW hu; clear q0 q1 q2 q3 q4; have q0 := HK7.out.c0; have q1 := HK7.out.c1; have q2 := HK7.out.c2; have q3 := HK7.out.c3; have q4 := HK7.out.c4)
    | (go_at_call 88; (with_reducible refine (bowner_x 2 0 0 (Lib.hid rfl) 0 0 0 L.G1 p (by decide) hpb HLv _ HW7.out (HTi.out _ HW7.out)).mono ?_); rintro e w7 ⟨rfl, hb⟩; have HW8 := Lib.hid (HW7.out.below hb); have HK8 := Lib.hid (HK7.out.below hb); clear hb; clear q0 q1 q2 q3 q4; have q0 := HK8.out.c0; have q1 := HK8.out.c1; have q2 := HK8.out.c2; have q3 := HK8.out.c3; have q4 := HK8.out.c4)
    | (go_at_call 89; (with_reducible refine (bgive_y 2 0 0 (Lib.hid rfl) 0 0 0 L.G1 p (p : Int) (Lib.hid rfl) (by decide) hpb HLv HG2 HUb _ HW8.out (HTi.out _ HW8.out) HGb.out).mono ?_); rintro e w9 ⟨rfl, hW, hu⟩; rw [← HDe.out] at hW; have HW9 := Lib.hid hW; have HK9 := Lib.hid (HK8.out.upt hu HKb.out); clear hW hu; clear q0 q1 q2 q3 q4; have q0 := HK9.out.c0; have q1 := HK9.out.c1; have q2 := HK9.out.c2; have q3 := HK9.out.c3; have q4 := HK9.out.c4)
    | (go_at_call 88; (with_reducible refine (bowner_dead 2 0 0 0 0 HDd _ HW9.out).mono ?_); rintro e w10 ⟨rfl, hb⟩; have HW10 := Lib.hid (HW9.out.below hb); have HK10 := Lib.hid (HK9.out.below hb); clear hb; clear q0 q1 q2 q3 q4; have q0 := HK10.out.c0; have q1 := HK10.out.c1; have q2 := HK10.out.c2; have q3 := HK10.out.c3; have q4 := HK10.out.c4)
    | (go_at_call 78; (with_reducible refine (bused_is 0 0 0 (Lib.hid rfl) h0e HW10.out.nn HUs _ HW10.out.kk).mono ?_); rintro e w11 ⟨rfl, rfl⟩)
    | (go_at_call 89; (with_reducible refine (bgive_none 2 0 0 0 0 p hpe HDd (eV (sA A 4)) _ HW10.out (HS1.out.below HW10.out.bel).c4 (HS1.out.below HW10.out.bel).s4).mono ?_); rintro e w12 ⟨rfl, hb⟩; have HW12 := Lib.hid (HW10.out.below hb); clear hb)
    | (go_at_call 20; (with_reducible refine (is_sen A 4 105 (by decide) (Lib.hid (by decide)) _ (HS1.out.below HW12.out.bel)).mono ?_); rintro e w13 ⟨rfl, hb⟩; have HW13 := Lib.hid (HW12.out.below hb); clear hb))
  go_ret
  exact ⟨rfl, HB1.out.trans (HW13.out.bel.mono HB1.out.size)⟩
set_option maxRecDepth 100000 in
set_option maxHeartbeats 8000000 in
theorem bowns_1d (a0 a1 a2 : Int) (p q : Nat) (hp : p < 4) (hq : q < 4) (hpq : q ≠ p) (CR : Hid (∀ w, Calls Tryd.prog 71 #[.int .i64 a0, .int .i64 3] w fun e w' => e = .returned (.int .i64 1) ∧ w = w')) (CP : Hid (∀ w, Calls Tryd.prog 71 #[.int .i64 a1, .int .i64 4] w fun e w' => e = .returned (.int .i64 (p : Int)) ∧ w = w')) (CQ : Hid (∀ w, Calls Tryd.prog 71 #[.int .i64 a2, .int .i64 4] w fun e w' => e = .returned (.int .i64 (q : Int)) ∧ w = w')) (w : World) (A : Nat → Addr) (hS : Sen A w) : Calls Tryd.prog 10 #[.int .i64 a0, .int .i64 a1, .int .i64 a2] w fun e w' => e = .returned (.bool true) ∧ Below w.heap.size w w' := by
  have HS := Lib.hid hS
  have HD := Lib.hid d4_is
  clear hS
  have e1 : ((q : Int) != (p : Int)) = true := by rw [bne_iff_ne]; omega
  go_enter Tryd.func10, Tryd.ntmps10
  go_upto_region 15 with (first
    | (go_at_call 73; (with_reducible refine (bfirst_is _ A HS.out).mono ?_); rintro e w1 ⟨rfl, hb1⟩; have HB1 := Lib.hid hb1; have HS1 := Lib.hid (HS.out.below hb1); clear hb1)
    | (go_at_call 74; (with_reducible refine (made18_is 4 4 4 4 4 4 4 4 (Lib.hid ⟨rfl, rfl, rfl, rfl⟩) (by decide) (by decide) (by decide) (by decide) _).mono ?_); rintro e w2 ⟨L, rfl, hW, hn⟩; have HW1 := Lib.hid hW; have HN := Lib.hid hn.out; clear hW hn)
    | (go_at_call 75; (with_reducible refine (bwroot_ok 10 (by decide) (by decide) 0 (Lib.hid rfl) (by rw [st0_nb]; have := HN.out; omega) _ HW1.out).mono ?_); rintro e w3 ⟨rfl, hW, hu⟩; have HW2 := Lib.hid hW; clear hW hu)
    | (go_at_call 76; (with_reducible refine (bwsub_ok 0 0 (Lib.hid z_cast) 10 (by decide) (by decide) (by rw [d4_n1]; decide) 1 (Lib.hid d4_i1) (by rw [d4_n1]; have := HN.out; omega) (Lib.hid d4_ch1) _ HW2.out).mono ?_); rintro e w3 ⟨rfl, hW, hu⟩; have HW3 := Lib.hid hW; clear hW hu)
    | (go_at_call 76; (with_reducible refine (bwsub_ok 1 1 (Lib.hid o_cast) 10 (by decide) (by decide) (by rw [d4_n2]; decide) 2 (Lib.hid d4_i2) (by rw [d4_n2]; have := HN.out; omega) (Lib.hid d4_ch2) _ HW3.out).mono ?_); rintro e w3 ⟨rfl, hW, hu⟩; have HW4 := Lib.hid hW; clear hW hu)
    | (go_at_call 75; (with_reducible refine (bwroot_ok 10 (by decide) (by decide) 3 (Lib.hid d4_i3) (by rw [d4_n3]; have := HN.out; omega) _ HW4.out).mono ?_); rintro e w3 ⟨rfl, hW, hu⟩; have HW5 : Hid (BW w1 w3 L d4) := Lib.hid hW; clear hW hu HW1 HW2 HW3 HW4)
    | (go_at_call 71; (with_reducible refine (CR.out _).mono ?_); rintro e w4 ⟨rfl, rfl⟩)
    | (go_at_call 71; (with_reducible refine (CP.out _).mono ?_); rintro e w4 ⟨rfl, rfl⟩)
    | (go_at_call 71; (with_reducible refine (CQ.out _).mono ?_); rintro e w4 ⟨rfl, rfl⟩))
  generalize hw5 : World.alloc w3 _ = w5
  have HB5 : Hid (Below w3.heap.size w3 w5) := Lib.hid (by rw [← hw5]; exact (Below.refl _ _).alloc (Nat.le_refl _) _)
  obtain ⟨kb, hkb⟩ : ∃ kb, kb = w3.heap.size := ⟨_, rfl⟩
  have HK5 : Hid (KeyC w5 kb 3 0 0 0 0) := Lib.hid (by rw [← hw5, hkb]; exact KeyC.new w3 3 0 0 0 0 _)
  have HKb : Hid (L.T ≤ kb) := Lib.hid (by rw [hkb]; exact HW5.out.tw)
  rw [← hkb]
  clear hw5 hkb
  have HW6 := Lib.hid (HW5.out.below HB5.out)
  have HIn := Lib.hid (chL_in (n := 4) HD.out.pk (Nat.le_refl _) (by decide) p hp)
  have HFull : Hid ((chL d4.pr (p : Int)).any (fullB d4.us d4.lm) = false) := Lib.hid (anyfull_no _ _ _ 4 HIn.out.1 (fun i hi => by simp [HD.out.us, HD.out.lm i hi]))
  have HU0 : Hid (∀ i, i < L.n → -1000000 ≤ d4.us i ∧ d4.us i ≤ 1000000) := Lib.hid (fun i _ => by simp [HD.out.us])
  have HEr : Hid (ErrsAt (eV (sA A 1)) (eV (sA A 2)) w5) := Lib.hid (by have h := HS1.out.below HW6.out.bel; exact ⟨h.c1, h.c2, h.s1, h.s2⟩)
  obtain ⟨Db, HDb⟩ : ∃ Db, Hid (Db = boughtP d4 p 0 0 (fresh d4.pW 0 [])) := ⟨_, Lib.hid rfl⟩
  have HLv : Hid (liveK L Db 3 0 0 = true) := Lib.hid (by rw [HDb.out]; have := HN.out; simp [liveK, thereB, boughtP, HD.out.pv, upd]; omega)
  have hpb : p < Db.nb := by rw [HDb.out]; exact (by omega : p < 4)
  have hqb : q < Db.nb := by rw [HDb.out]; exact (by omega : q < 4)
  have HTi : Hid (∀ W, BW w1 W L Db → TiAt W L 3 L.G2 0 (p : Int) 0) := Lib.hid (fun W hW => by have h := hW.title2 0 (by decide); rw [show Db.o2 0 = (p : Int) by rw [HDb.out]; simp [boughtP, upd], show Db.v2 0 = 0 by rw [HDb.out]; simp [boughtP, upd]] at h; exact h)
  have HBuy := Lib.hid (bpage_ok p (by rw [HD.out.nb]; exact hp) none 0 0 [] (Lib.hid rfl) (by decide) 0 (by have := HN.out; omega) (Lib.hid (by rw [HD.out.pt, HD.out.pv]; rfl)) (Lib.hid (by intro i hi; omega)) 0 (Lib.hid (by rw [HD.out.pv])) HFull HU0 w5 HW6.out (srcw_none L w5))
  have q0 := HK5.out.c0; have q1 := HK5.out.c1; have q2 := HK5.out.c2; have q3 := HK5.out.c3; have q4 := HK5.out.c4
  go_wp2_with (first
    | (go_at_call 81; (with_reducible refine HBuy.out.mono ?_); rintro e w6 ⟨rfl, hW, hu⟩; rw [← HDb.out] at hW; have HW7 := Lib.hid hW; have HK7 := Lib.hid (HK5.out.upt hu HKb.out); clear hW hu; clear q0 q1 q2 q3 q4; have q0 := HK7.out.c0; have q1 := HK7.out.c1; have q2 := HK7.out.c2; have q3 := HK7.out.c3; have q4 := HK7.out.c4)
    | (go_at_call 88; (with_reducible refine (bowner_x 3 0 0 (Lib.hid rfl) 0 0 0 L.G2 p (by decide) hpb HLv _ HW7.out (HTi.out _ HW7.out)).mono ?_); rintro e w7 ⟨rfl, hb⟩; have HW8 := Lib.hid (HW7.out.below hb); have HK8 := Lib.hid (HK7.out.below hb); clear hb; clear q0 q1 q2 q3 q4; have q0 := HK8.out.c0; have q1 := HK8.out.c1; have q2 := HK8.out.c2; have q3 := HK8.out.c3; have q4 := HK8.out.c4)
    | (go_at_call 89; (with_reducible refine (bgive_ownx 3 0 0 (Lib.hid rfl) 0 0 0 L.G2 p q (by decide) hpb hqb hpq HLv (eV (sA A 7)) _ HW8.out (HTi.out _ HW8.out) (HS1.out.below HW8.out.bel).c7 (HS1.out.below HW8.out.bel).s7).mono ?_); rintro e w9 ⟨rfl, hb⟩; have HW9 := Lib.hid (HW8.out.below hb); have HK9 := Lib.hid (HK8.out.below hb); clear hb; clear q0 q1 q2 q3 q4; have q0 := HK9.out.c0; have q1 := HK9.out.c1; have q2 := HK9.out.c2; have q3 := HK9.out.c3; have q4 := HK9.out.c4)
    | (go_at_call 20; (with_reducible refine (is_sen A 7 108 (by decide) (Lib.hid (by decide)) _ (HS1.out.below HW9.out.bel)).mono ?_); rintro e w10 ⟨rfl, hb⟩; have HW10 := Lib.hid (HW9.out.below hb); have HK10 := Lib.hid (HK9.out.below hb); clear hb; clear q0 q1 q2 q3 q4; have q0 := HK10.out.c0; have q1 := HK10.out.c1; have q2 := HK10.out.c2; have q3 := HK10.out.c3; have q4 := HK10.out.c4)
    | (go_at_call 88; (with_reducible refine (bowner_x 3 0 0 (Lib.hid rfl) 0 0 0 L.G2 p (by decide) hpb HLv _ HW10.out (HTi.out _ HW10.out)).mono ?_); rintro e w11 ⟨rfl, hb⟩; have HW11 := Lib.hid (HW10.out.below hb); clear hb))
  go_ret
  exact ⟨rfl, HB1.out.trans (HW11.out.bel.mono HB1.out.size)⟩
set_option maxRecDepth 100000 in
set_option maxHeartbeats 8000000 in
theorem bowns_1s (a0 a1 a2 : Int) (p q : Nat) (hp : p < 4) (hq : q < 4) (hpq : q = p) (CR : Hid (∀ w, Calls Tryd.prog 71 #[.int .i64 a0, .int .i64 3] w fun e w' => e = .returned (.int .i64 1) ∧ w = w')) (CP : Hid (∀ w, Calls Tryd.prog 71 #[.int .i64 a1, .int .i64 4] w fun e w' => e = .returned (.int .i64 (p : Int)) ∧ w = w')) (CQ : Hid (∀ w, Calls Tryd.prog 71 #[.int .i64 a2, .int .i64 4] w fun e w' => e = .returned (.int .i64 (q : Int)) ∧ w = w')) (w : World) (A : Nat → Addr) (hS : Sen A w) : Calls Tryd.prog 10 #[.int .i64 a0, .int .i64 a1, .int .i64 a2] w fun e w' => e = .returned (.bool true) ∧ Below w.heap.size w w' := by
  have HS := Lib.hid hS
  have HD := Lib.hid d4_is
  clear hS
  have e1 : ((q : Int) != (p : Int)) = false := by rw [hpq]; simp
  go_enter Tryd.func10, Tryd.ntmps10
  go_upto_region 15 with (first
    | (go_at_call 73; (with_reducible refine (bfirst_is _ A HS.out).mono ?_); rintro e w1 ⟨rfl, hb1⟩; have HB1 := Lib.hid hb1; have HS1 := Lib.hid (HS.out.below hb1); clear hb1)
    | (go_at_call 74; (with_reducible refine (made18_is 4 4 4 4 4 4 4 4 (Lib.hid ⟨rfl, rfl, rfl, rfl⟩) (by decide) (by decide) (by decide) (by decide) _).mono ?_); rintro e w2 ⟨L, rfl, hW, hn⟩; have HW1 := Lib.hid hW; have HN := Lib.hid hn.out; clear hW hn)
    | (go_at_call 75; (with_reducible refine (bwroot_ok 10 (by decide) (by decide) 0 (Lib.hid rfl) (by rw [st0_nb]; have := HN.out; omega) _ HW1.out).mono ?_); rintro e w3 ⟨rfl, hW, hu⟩; have HW2 := Lib.hid hW; clear hW hu)
    | (go_at_call 76; (with_reducible refine (bwsub_ok 0 0 (Lib.hid z_cast) 10 (by decide) (by decide) (by rw [d4_n1]; decide) 1 (Lib.hid d4_i1) (by rw [d4_n1]; have := HN.out; omega) (Lib.hid d4_ch1) _ HW2.out).mono ?_); rintro e w3 ⟨rfl, hW, hu⟩; have HW3 := Lib.hid hW; clear hW hu)
    | (go_at_call 76; (with_reducible refine (bwsub_ok 1 1 (Lib.hid o_cast) 10 (by decide) (by decide) (by rw [d4_n2]; decide) 2 (Lib.hid d4_i2) (by rw [d4_n2]; have := HN.out; omega) (Lib.hid d4_ch2) _ HW3.out).mono ?_); rintro e w3 ⟨rfl, hW, hu⟩; have HW4 := Lib.hid hW; clear hW hu)
    | (go_at_call 75; (with_reducible refine (bwroot_ok 10 (by decide) (by decide) 3 (Lib.hid d4_i3) (by rw [d4_n3]; have := HN.out; omega) _ HW4.out).mono ?_); rintro e w3 ⟨rfl, hW, hu⟩; have HW5 : Hid (BW w1 w3 L d4) := Lib.hid hW; clear hW hu HW1 HW2 HW3 HW4)
    | (go_at_call 71; (with_reducible refine (CR.out _).mono ?_); rintro e w4 ⟨rfl, rfl⟩)
    | (go_at_call 71; (with_reducible refine (CP.out _).mono ?_); rintro e w4 ⟨rfl, rfl⟩)
    | (go_at_call 71; (with_reducible refine (CQ.out _).mono ?_); rintro e w4 ⟨rfl, rfl⟩))
  generalize hw5 : World.alloc w3 _ = w5
  have HB5 : Hid (Below w3.heap.size w3 w5) := Lib.hid (by rw [← hw5]; exact (Below.refl _ _).alloc (Nat.le_refl _) _)
  obtain ⟨kb, hkb⟩ : ∃ kb, kb = w3.heap.size := ⟨_, rfl⟩
  have HK5 : Hid (KeyC w5 kb 3 0 0 0 0) := Lib.hid (by rw [← hw5, hkb]; exact KeyC.new w3 3 0 0 0 0 _)
  have HKb : Hid (L.T ≤ kb) := Lib.hid (by rw [hkb]; exact HW5.out.tw)
  rw [← hkb]
  clear hw5 hkb
  have HW6 := Lib.hid (HW5.out.below HB5.out)
  have HIn := Lib.hid (chL_in (n := 4) HD.out.pk (Nat.le_refl _) (by decide) p hp)
  have HFull : Hid ((chL d4.pr (p : Int)).any (fullB d4.us d4.lm) = false) := Lib.hid (anyfull_no _ _ _ 4 HIn.out.1 (fun i hi => by simp [HD.out.us, HD.out.lm i hi]))
  have HU0 : Hid (∀ i, i < L.n → -1000000 ≤ d4.us i ∧ d4.us i ≤ 1000000) := Lib.hid (fun i _ => by simp [HD.out.us])
  have HEr : Hid (ErrsAt (eV (sA A 1)) (eV (sA A 2)) w5) := Lib.hid (by have h := HS1.out.below HW6.out.bel; exact ⟨h.c1, h.c2, h.s1, h.s2⟩)
  obtain ⟨Db, HDb⟩ : ∃ Db, Hid (Db = boughtP d4 p 0 0 (fresh d4.pW 0 [])) := ⟨_, Lib.hid rfl⟩
  have HLv : Hid (liveK L Db 3 0 0 = true) := Lib.hid (by rw [HDb.out]; have := HN.out; simp [liveK, thereB, boughtP, HD.out.pv, upd]; omega)
  have hpb : p < Db.nb := by rw [HDb.out]; exact (by omega : p < 4)
  have hqb : q < Db.nb := by rw [HDb.out]; exact (by omega : q < 4)
  have HTi : Hid (∀ W, BW w1 W L Db → TiAt W L 3 L.G2 0 (p : Int) 0) := Lib.hid (fun W hW => by have h := hW.title2 0 (by decide); rw [show Db.o2 0 = (p : Int) by rw [HDb.out]; simp [boughtP, upd], show Db.v2 0 = 0 by rw [HDb.out]; simp [boughtP, upd]] at h; exact h)
  obtain ⟨Dg, HDg⟩ : ∃ Dg, Hid (Dg = { Db with pt := upd Db.pt 0 false, pv := upd Db.pv 0 (0 + 1), o2 := upd Db.o2 0 (-1), v2 := upd Db.v2 0 0 }) := ⟨_, Lib.hid rfl⟩
  have HG2 : Hid (Dg.nb = Db.nb ∧ Dg.pr = Db.pr ∧ Dg.us = Db.us) := Lib.hid (by rw [HDg.out]; exact ⟨rfl, rfl, rfl⟩)
  have HUb : Hid (∀ i, i < L.n → -1000000 ≤ Db.us i ∧ Db.us i ≤ 1000000) := Lib.hid (fun i _ => by rw [HDb.out]; show -1000000 ≤ addL d4.us _ 1 i ∧ addL d4.us _ 1 i ≤ 1000000; rw [HD.out.us]; unfold addL; split <;> simp)
  have HGb : Hid (∀ W, BW w1 W L Db → Calls Tryd.prog 158 #[.pointer (some ⟨L.P, 0, none⟩), Value.agg #[.int .i64 3, .int .i64 ((0 : Nat) : Int), .int .i64 0, .int .i64 0, .int .u32 0]] W fun e w' => e = .returned (.tuple #[]) ∧ BW w1 w' L Dg ∧ UpT L.T W w') := Lib.hid (fun W hW => by rw [HDg.out]; exact bgb_page 0 0 0 0 (by decide) (by have := HN.out; omega) (Lib.hid (by rw [HDb.out]; simp [boughtP, upd])) (Lib.hid (by rw [HDb.out]; simp [boughtP, HD.out.pv])) (by decide) (by decide) W hW)
  obtain ⟨De, HDe⟩ : ∃ De, Hid (De = { Dg with us := addL Db.us (chL Db.pr (p : Int)) (-1) }) := ⟨_, Lib.hid rfl⟩
  have HDd : Hid (liveK L De 3 0 0 = false) := Lib.hid (by rw [HDe.out, HDg.out]; simp [liveK, thereB, upd])
  have hpe : p < De.nb := by rw [HDe.out, HDg.out]; exact hpb
  have h0e : 0 < De.nb := by omega
  have HUs : Hid (De.us 0 = 0) := Lib.hid (by rw [HDe.out, HDb.out]; show addL (addL d4.us (chL d4.pr (p : Int)) 1) (chL d4.pr (p : Int)) (-1) 0 = 0; rw [addL_back _ _ 1 (-1) (by decide), HD.out.us])
  have HBuy := Lib.hid (bpage_ok p (by rw [HD.out.nb]; exact hp) none 0 0 [] (Lib.hid rfl) (by decide) 0 (by have := HN.out; omega) (Lib.hid (by rw [HD.out.pt, HD.out.pv]; rfl)) (Lib.hid (by intro i hi; omega)) 0 (Lib.hid (by rw [HD.out.pv])) HFull HU0 w5 HW6.out (srcw_none L w5))
  have q0 := HK5.out.c0; have q1 := HK5.out.c1; have q2 := HK5.out.c2; have q3 := HK5.out.c3; have q4 := HK5.out.c4
  go_wp2_with (first
    | (go_at_call 81; (with_reducible refine HBuy.out.mono ?_); rintro e w6 ⟨rfl, hW, hu⟩; rw [← HDb.out] at hW; have HW7 := Lib.hid hW; have HK7 := Lib.hid (HK5.out.upt hu HKb.out); clear hW hu; clear q0 q1 q2 q3 q4; have q0 := HK7.out.c0; have q1 := HK7.out.c1; have q2 := HK7.out.c2; have q3 := HK7.out.c3; have q4 := HK7.out.c4)
    | (go_at_call 88; (with_reducible refine (bowner_x 3 0 0 (Lib.hid rfl) 0 0 0 L.G2 p (by decide) hpb HLv _ HW7.out (HTi.out _ HW7.out)).mono ?_); rintro e w7 ⟨rfl, hb⟩; have HW8 := Lib.hid (HW7.out.below hb); have HK8 := Lib.hid (HK7.out.below hb); clear hb; clear q0 q1 q2 q3 q4; have q0 := HK8.out.c0; have q1 := HK8.out.c1; have q2 := HK8.out.c2; have q3 := HK8.out.c3; have q4 := HK8.out.c4)
    | (go_at_call 89; (with_reducible refine (bgive_y 3 0 0 (Lib.hid rfl) 0 0 0 L.G2 p (p : Int) (Lib.hid rfl) (by decide) hpb HLv HG2 HUb _ HW8.out (HTi.out _ HW8.out) HGb.out).mono ?_); rintro e w9 ⟨rfl, hW, hu⟩; rw [← HDe.out] at hW; have HW9 := Lib.hid hW; have HK9 := Lib.hid (HK8.out.upt hu HKb.out); clear hW hu; clear q0 q1 q2 q3 q4; have q0 := HK9.out.c0; have q1 := HK9.out.c1; have q2 := HK9.out.c2; have q3 := HK9.out.c3; have q4 := HK9.out.c4)
    | (go_at_call 88; (with_reducible refine (bowner_dead 3 0 0 0 0 HDd _ HW9.out).mono ?_); rintro e w10 ⟨rfl, hb⟩; have HW10 := Lib.hid (HW9.out.below hb); have HK10 := Lib.hid (HK9.out.below hb); clear hb; clear q0 q1 q2 q3 q4; have q0 := HK10.out.c0; have q1 := HK10.out.c1; have q2 := HK10.out.c2; have q3 := HK10.out.c3; have q4 := HK10.out.c4)
    | (go_at_call 78; (with_reducible refine (bused_is 0 0 0 (Lib.hid rfl) h0e HW10.out.nn HUs _ HW10.out.kk).mono ?_); rintro e w11 ⟨rfl, rfl⟩)
    | (go_at_call 89; (with_reducible refine (bgive_none 3 0 0 0 0 p hpe HDd (eV (sA A 4)) _ HW10.out (HS1.out.below HW10.out.bel).c4 (HS1.out.below HW10.out.bel).s4).mono ?_); rintro e w12 ⟨rfl, hb⟩; have HW12 := Lib.hid (HW10.out.below hb); clear hb)
    | (go_at_call 20; (with_reducible refine (is_sen A 4 105 (by decide) (Lib.hid (by decide)) _ (HS1.out.below HW12.out.bel)).mono ?_); rintro e w13 ⟨rfl, hb⟩; have HW13 := Lib.hid (HW12.out.below hb); clear hb))
  go_ret
  exact ⟨rfl, HB1.out.trans (HW13.out.bel.mono HB1.out.size)⟩
set_option maxRecDepth 100000 in
set_option maxHeartbeats 8000000 in
theorem bowns_2d (a0 a1 a2 : Int) (p q : Nat) (hp : p < 4) (hq : q < 4) (hpq : q ≠ p) (CR : Hid (∀ w, Calls Tryd.prog 71 #[.int .i64 a0, .int .i64 3] w fun e w' => e = .returned (.int .i64 2) ∧ w = w')) (CP : Hid (∀ w, Calls Tryd.prog 71 #[.int .i64 a1, .int .i64 4] w fun e w' => e = .returned (.int .i64 (p : Int)) ∧ w = w')) (CQ : Hid (∀ w, Calls Tryd.prog 71 #[.int .i64 a2, .int .i64 4] w fun e w' => e = .returned (.int .i64 (q : Int)) ∧ w = w')) (w : World) (A : Nat → Addr) (hS : Sen A w) : Calls Tryd.prog 10 #[.int .i64 a0, .int .i64 a1, .int .i64 a2] w fun e w' => e = .returned (.bool true) ∧ Below w.heap.size w w' := by
  have HS := Lib.hid hS
  have HD := Lib.hid d4_is
  clear hS
  have e1 : ((q : Int) != (p : Int)) = true := by rw [bne_iff_ne]; omega
  go_enter Tryd.func10, Tryd.ntmps10
  go_upto_region 15 with (first
    | (go_at_call 73; (with_reducible refine (bfirst_is _ A HS.out).mono ?_); rintro e w1 ⟨rfl, hb1⟩; have HB1 := Lib.hid hb1; have HS1 := Lib.hid (HS.out.below hb1); clear hb1)
    | (go_at_call 74; (with_reducible refine (made18_is 4 4 4 4 4 4 4 4 (Lib.hid ⟨rfl, rfl, rfl, rfl⟩) (by decide) (by decide) (by decide) (by decide) _).mono ?_); rintro e w2 ⟨L, rfl, hW, hn⟩; have HW1 := Lib.hid hW; have HN := Lib.hid hn.out; clear hW hn)
    | (go_at_call 75; (with_reducible refine (bwroot_ok 10 (by decide) (by decide) 0 (Lib.hid rfl) (by rw [st0_nb]; have := HN.out; omega) _ HW1.out).mono ?_); rintro e w3 ⟨rfl, hW, hu⟩; have HW2 := Lib.hid hW; clear hW hu)
    | (go_at_call 76; (with_reducible refine (bwsub_ok 0 0 (Lib.hid z_cast) 10 (by decide) (by decide) (by rw [d4_n1]; decide) 1 (Lib.hid d4_i1) (by rw [d4_n1]; have := HN.out; omega) (Lib.hid d4_ch1) _ HW2.out).mono ?_); rintro e w3 ⟨rfl, hW, hu⟩; have HW3 := Lib.hid hW; clear hW hu)
    | (go_at_call 76; (with_reducible refine (bwsub_ok 1 1 (Lib.hid o_cast) 10 (by decide) (by decide) (by rw [d4_n2]; decide) 2 (Lib.hid d4_i2) (by rw [d4_n2]; have := HN.out; omega) (Lib.hid d4_ch2) _ HW3.out).mono ?_); rintro e w3 ⟨rfl, hW, hu⟩; have HW4 := Lib.hid hW; clear hW hu)
    | (go_at_call 75; (with_reducible refine (bwroot_ok 10 (by decide) (by decide) 3 (Lib.hid d4_i3) (by rw [d4_n3]; have := HN.out; omega) _ HW4.out).mono ?_); rintro e w3 ⟨rfl, hW, hu⟩; have HW5 : Hid (BW w1 w3 L d4) := Lib.hid hW; clear hW hu HW1 HW2 HW3 HW4)
    | (go_at_call 71; (with_reducible refine (CR.out _).mono ?_); rintro e w4 ⟨rfl, rfl⟩)
    | (go_at_call 71; (with_reducible refine (CP.out _).mono ?_); rintro e w4 ⟨rfl, rfl⟩)
    | (go_at_call 71; (with_reducible refine (CQ.out _).mono ?_); rintro e w4 ⟨rfl, rfl⟩))
  generalize hw5 : World.alloc w3 _ = w5
  have HB5 : Hid (Below w3.heap.size w3 w5) := Lib.hid (by rw [← hw5]; exact (Below.refl _ _).alloc (Nat.le_refl _) _)
  obtain ⟨kb, hkb⟩ : ∃ kb, kb = w3.heap.size := ⟨_, rfl⟩
  have HK5 : Hid (KeyC w5 kb 4 0 0 0 0) := Lib.hid (by rw [← hw5, hkb]; exact KeyC.new w3 4 0 0 0 0 _)
  have HKb : Hid (L.T ≤ kb) := Lib.hid (by rw [hkb]; exact HW5.out.tw)
  rw [← hkb]
  clear hw5 hkb
  have HW6 := Lib.hid (HW5.out.below HB5.out)
  have HIn := Lib.hid (chL_in (n := 4) HD.out.pk (Nat.le_refl _) (by decide) p hp)
  have HFull : Hid ((chL d4.pr (p : Int)).any (fullB d4.us d4.lm) = false) := Lib.hid (anyfull_no _ _ _ 4 HIn.out.1 (fun i hi => by simp [HD.out.us, HD.out.lm i hi]))
  have HU0 : Hid (∀ i, i < L.n → -1000000 ≤ d4.us i ∧ d4.us i ≤ 1000000) := Lib.hid (fun i _ => by simp [HD.out.us])
  have HEr : Hid (ErrsAt (eV (sA A 1)) (eV (sA A 2)) w5) := Lib.hid (by have h := HS1.out.below HW6.out.bel; exact ⟨h.c1, h.c2, h.s1, h.s2⟩)
  obtain ⟨Db, HDb⟩ : ∃ Db, Hid (Db = boughtD d4 p 0 0) := ⟨_, Lib.hid rfl⟩
  have HLv : Hid (liveK L Db 4 0 0 = true) := Lib.hid (by rw [HDb.out]; have := HN.out; simp [liveK, thereB, boughtD, HD.out.dv, upd]; omega)
  have hpb : p < Db.nb := by rw [HDb.out]; exact (by omega : p < 4)
  have hqb : q < Db.nb := by rw [HDb.out]; exact (by omega : q < 4)
  have HTi : Hid (∀ W, BW w1 W L Db → TiAt W L 4 L.G3 0 (p : Int) 0) := Lib.hid (fun W hW => by have h := hW.title3 0 (by decide); rw [show Db.o3 0 = (p : Int) by rw [HDb.out]; simp [boughtD, upd], show Db.v3 0 = 0 by rw [HDb.out]; simp [boughtD, upd]] at h; exact h)
  have HBuy := Lib.hid (bdomain_ok p (by rw [HD.out.nb]; exact hp) 0 0 (by have := HN.out; omega) (Lib.hid (by rw [HD.out.dt, HD.out.dv]; rfl)) (Lib.hid (by intro i hi; omega)) (Lib.hid (by rw [HD.out.dv])) HFull HU0 w5 HW6.out)
  have q0 := HK5.out.c0; have q1 := HK5.out.c1; have q2 := HK5.out.c2; have q3 := HK5.out.c3; have q4 := HK5.out.c4
  go_wp2_with (first
    | (go_at_call 83; (with_reducible refine HBuy.out.mono ?_); rintro e w6 ⟨rfl, hW, hu⟩; rw [← HDb.out] at hW; have HW7 := Lib.hid hW; have HK7 := Lib.hid (HK5.out.upt hu HKb.out); clear hW hu; clear q0 q1 q2 q3 q4; have q0 := HK7.out.c0; have q1 := HK7.out.c1; have q2 := HK7.out.c2; have q3 := HK7.out.c3; have q4 := HK7.out.c4)
    | (go_at_call 88; (with_reducible refine (bowner_x 4 0 0 (Lib.hid rfl) 0 0 0 L.G3 p (by decide) hpb HLv _ HW7.out (HTi.out _ HW7.out)).mono ?_); rintro e w7 ⟨rfl, hb⟩; have HW8 := Lib.hid (HW7.out.below hb); have HK8 := Lib.hid (HK7.out.below hb); clear hb; clear q0 q1 q2 q3 q4; have q0 := HK8.out.c0; have q1 := HK8.out.c1; have q2 := HK8.out.c2; have q3 := HK8.out.c3; have q4 := HK8.out.c4)
    | (go_at_call 89; (with_reducible refine (bgive_ownx 4 0 0 (Lib.hid rfl) 0 0 0 L.G3 p q (by decide) hpb hqb hpq HLv (eV (sA A 7)) _ HW8.out (HTi.out _ HW8.out) (HS1.out.below HW8.out.bel).c7 (HS1.out.below HW8.out.bel).s7).mono ?_); rintro e w9 ⟨rfl, hb⟩; have HW9 := Lib.hid (HW8.out.below hb); have HK9 := Lib.hid (HK8.out.below hb); clear hb; clear q0 q1 q2 q3 q4; have q0 := HK9.out.c0; have q1 := HK9.out.c1; have q2 := HK9.out.c2; have q3 := HK9.out.c3; have q4 := HK9.out.c4)
    | (go_at_call 20; (with_reducible refine (is_sen A 7 108 (by decide) (Lib.hid (by decide)) _ (HS1.out.below HW9.out.bel)).mono ?_); rintro e w10 ⟨rfl, hb⟩; have HW10 := Lib.hid (HW9.out.below hb); have HK10 := Lib.hid (HK9.out.below hb); clear hb; clear q0 q1 q2 q3 q4; have q0 := HK10.out.c0; have q1 := HK10.out.c1; have q2 := HK10.out.c2; have q3 := HK10.out.c3; have q4 := HK10.out.c4)
    | (go_at_call 88; (with_reducible refine (bowner_x 4 0 0 (Lib.hid rfl) 0 0 0 L.G3 p (by decide) hpb HLv _ HW10.out (HTi.out _ HW10.out)).mono ?_); rintro e w11 ⟨rfl, hb⟩; have HW11 := Lib.hid (HW10.out.below hb); clear hb))
  go_ret
  exact ⟨rfl, HB1.out.trans (HW11.out.bel.mono HB1.out.size)⟩
set_option maxRecDepth 100000 in
set_option maxHeartbeats 8000000 in
theorem bowns_2s (a0 a1 a2 : Int) (p q : Nat) (hp : p < 4) (hq : q < 4) (hpq : q = p) (CR : Hid (∀ w, Calls Tryd.prog 71 #[.int .i64 a0, .int .i64 3] w fun e w' => e = .returned (.int .i64 2) ∧ w = w')) (CP : Hid (∀ w, Calls Tryd.prog 71 #[.int .i64 a1, .int .i64 4] w fun e w' => e = .returned (.int .i64 (p : Int)) ∧ w = w')) (CQ : Hid (∀ w, Calls Tryd.prog 71 #[.int .i64 a2, .int .i64 4] w fun e w' => e = .returned (.int .i64 (q : Int)) ∧ w = w')) (w : World) (A : Nat → Addr) (hS : Sen A w) : Calls Tryd.prog 10 #[.int .i64 a0, .int .i64 a1, .int .i64 a2] w fun e w' => e = .returned (.bool true) ∧ Below w.heap.size w w' := by
  have HS := Lib.hid hS
  have HD := Lib.hid d4_is
  clear hS
  have e1 : ((q : Int) != (p : Int)) = false := by rw [hpq]; simp
  go_enter Tryd.func10, Tryd.ntmps10
  go_upto_region 15 with (first
    | (go_at_call 73; (with_reducible refine (bfirst_is _ A HS.out).mono ?_); rintro e w1 ⟨rfl, hb1⟩; have HB1 := Lib.hid hb1; have HS1 := Lib.hid (HS.out.below hb1); clear hb1)
    | (go_at_call 74; (with_reducible refine (made18_is 4 4 4 4 4 4 4 4 (Lib.hid ⟨rfl, rfl, rfl, rfl⟩) (by decide) (by decide) (by decide) (by decide) _).mono ?_); rintro e w2 ⟨L, rfl, hW, hn⟩; have HW1 := Lib.hid hW; have HN := Lib.hid hn.out; clear hW hn)
    | (go_at_call 75; (with_reducible refine (bwroot_ok 10 (by decide) (by decide) 0 (Lib.hid rfl) (by rw [st0_nb]; have := HN.out; omega) _ HW1.out).mono ?_); rintro e w3 ⟨rfl, hW, hu⟩; have HW2 := Lib.hid hW; clear hW hu)
    | (go_at_call 76; (with_reducible refine (bwsub_ok 0 0 (Lib.hid z_cast) 10 (by decide) (by decide) (by rw [d4_n1]; decide) 1 (Lib.hid d4_i1) (by rw [d4_n1]; have := HN.out; omega) (Lib.hid d4_ch1) _ HW2.out).mono ?_); rintro e w3 ⟨rfl, hW, hu⟩; have HW3 := Lib.hid hW; clear hW hu)
    | (go_at_call 76; (with_reducible refine (bwsub_ok 1 1 (Lib.hid o_cast) 10 (by decide) (by decide) (by rw [d4_n2]; decide) 2 (Lib.hid d4_i2) (by rw [d4_n2]; have := HN.out; omega) (Lib.hid d4_ch2) _ HW3.out).mono ?_); rintro e w3 ⟨rfl, hW, hu⟩; have HW4 := Lib.hid hW; clear hW hu)
    | (go_at_call 75; (with_reducible refine (bwroot_ok 10 (by decide) (by decide) 3 (Lib.hid d4_i3) (by rw [d4_n3]; have := HN.out; omega) _ HW4.out).mono ?_); rintro e w3 ⟨rfl, hW, hu⟩; have HW5 : Hid (BW w1 w3 L d4) := Lib.hid hW; clear hW hu HW1 HW2 HW3 HW4)
    | (go_at_call 71; (with_reducible refine (CR.out _).mono ?_); rintro e w4 ⟨rfl, rfl⟩)
    | (go_at_call 71; (with_reducible refine (CP.out _).mono ?_); rintro e w4 ⟨rfl, rfl⟩)
    | (go_at_call 71; (with_reducible refine (CQ.out _).mono ?_); rintro e w4 ⟨rfl, rfl⟩))
  generalize hw5 : World.alloc w3 _ = w5
  have HB5 : Hid (Below w3.heap.size w3 w5) := Lib.hid (by rw [← hw5]; exact (Below.refl _ _).alloc (Nat.le_refl _) _)
  obtain ⟨kb, hkb⟩ : ∃ kb, kb = w3.heap.size := ⟨_, rfl⟩
  have HK5 : Hid (KeyC w5 kb 4 0 0 0 0) := Lib.hid (by rw [← hw5, hkb]; exact KeyC.new w3 4 0 0 0 0 _)
  have HKb : Hid (L.T ≤ kb) := Lib.hid (by rw [hkb]; exact HW5.out.tw)
  rw [← hkb]
  clear hw5 hkb
  have HW6 := Lib.hid (HW5.out.below HB5.out)
  have HIn := Lib.hid (chL_in (n := 4) HD.out.pk (Nat.le_refl _) (by decide) p hp)
  have HFull : Hid ((chL d4.pr (p : Int)).any (fullB d4.us d4.lm) = false) := Lib.hid (anyfull_no _ _ _ 4 HIn.out.1 (fun i hi => by simp [HD.out.us, HD.out.lm i hi]))
  have HU0 : Hid (∀ i, i < L.n → -1000000 ≤ d4.us i ∧ d4.us i ≤ 1000000) := Lib.hid (fun i _ => by simp [HD.out.us])
  have HEr : Hid (ErrsAt (eV (sA A 1)) (eV (sA A 2)) w5) := Lib.hid (by have h := HS1.out.below HW6.out.bel; exact ⟨h.c1, h.c2, h.s1, h.s2⟩)
  obtain ⟨Db, HDb⟩ : ∃ Db, Hid (Db = boughtD d4 p 0 0) := ⟨_, Lib.hid rfl⟩
  have HLv : Hid (liveK L Db 4 0 0 = true) := Lib.hid (by rw [HDb.out]; have := HN.out; simp [liveK, thereB, boughtD, HD.out.dv, upd]; omega)
  have hpb : p < Db.nb := by rw [HDb.out]; exact (by omega : p < 4)
  have hqb : q < Db.nb := by rw [HDb.out]; exact (by omega : q < 4)
  have HTi : Hid (∀ W, BW w1 W L Db → TiAt W L 4 L.G3 0 (p : Int) 0) := Lib.hid (fun W hW => by have h := hW.title3 0 (by decide); rw [show Db.o3 0 = (p : Int) by rw [HDb.out]; simp [boughtD, upd], show Db.v3 0 = 0 by rw [HDb.out]; simp [boughtD, upd]] at h; exact h)
  obtain ⟨Dg, HDg⟩ : ∃ Dg, Hid (Dg = { Db with dt := upd Db.dt 0 false, dv := upd Db.dv 0 (0 + 1), o3 := upd Db.o3 0 (-1), v3 := upd Db.v3 0 0 }) := ⟨_, Lib.hid rfl⟩
  have HG2 : Hid (Dg.nb = Db.nb ∧ Dg.pr = Db.pr ∧ Dg.us = Db.us) := Lib.hid (by rw [HDg.out]; exact ⟨rfl, rfl, rfl⟩)
  have HUb : Hid (∀ i, i < L.n → -1000000 ≤ Db.us i ∧ Db.us i ≤ 1000000) := Lib.hid (fun i _ => by rw [HDb.out]; show -1000000 ≤ addL d4.us _ 1 i ∧ addL d4.us _ 1 i ≤ 1000000; rw [HD.out.us]; unfold addL; split <;> simp)
  have HGb : Hid (∀ W, BW w1 W L Db → Calls Tryd.prog 158 #[.pointer (some ⟨L.P, 0, none⟩), Value.agg #[.int .i64 4, .int .i64 ((0 : Nat) : Int), .int .i64 0, .int .i64 0, .int .u32 0]] W fun e w' => e = .returned (.tuple #[]) ∧ BW w1 w' L Dg ∧ UpT L.T W w') := Lib.hid (fun W hW => by rw [HDg.out]; exact bgb_dom 0 0 0 0 (by decide) (by have := HN.out; omega) (Lib.hid (by rw [HDb.out]; simp [boughtD, upd])) (Lib.hid (by rw [HDb.out]; simp [boughtD, HD.out.dv])) (by decide) (by decide) W hW)
  obtain ⟨De, HDe⟩ : ∃ De, Hid (De = { Dg with us := addL Db.us (chL Db.pr (p : Int)) (-1) }) := ⟨_, Lib.hid rfl⟩
  have HDd : Hid (liveK L De 4 0 0 = false) := Lib.hid (by rw [HDe.out, HDg.out]; simp [liveK, thereB, upd])
  have hpe : p < De.nb := by rw [HDe.out, HDg.out]; exact hpb
  have h0e : 0 < De.nb := by omega
  have HUs : Hid (De.us 0 = 0) := Lib.hid (by rw [HDe.out, HDb.out]; show addL (addL d4.us (chL d4.pr (p : Int)) 1) (chL d4.pr (p : Int)) (-1) 0 = 0; rw [addL_back _ _ 1 (-1) (by decide), HD.out.us])
  have HBuy := Lib.hid (bdomain_ok p (by rw [HD.out.nb]; exact hp) 0 0 (by have := HN.out; omega) (Lib.hid (by rw [HD.out.dt, HD.out.dv]; rfl)) (Lib.hid (by intro i hi; omega)) (Lib.hid (by rw [HD.out.dv])) HFull HU0 w5 HW6.out)
  have q0 := HK5.out.c0; have q1 := HK5.out.c1; have q2 := HK5.out.c2; have q3 := HK5.out.c3; have q4 := HK5.out.c4
  go_wp2_with (first
    | (go_at_call 83; (with_reducible refine HBuy.out.mono ?_); rintro e w6 ⟨rfl, hW, hu⟩; rw [← HDb.out] at hW; have HW7 := Lib.hid hW; have HK7 := Lib.hid (HK5.out.upt hu HKb.out); clear hW hu; clear q0 q1 q2 q3 q4; have q0 := HK7.out.c0; have q1 := HK7.out.c1; have q2 := HK7.out.c2; have q3 := HK7.out.c3; have q4 := HK7.out.c4)
    | (go_at_call 88; (with_reducible refine (bowner_x 4 0 0 (Lib.hid rfl) 0 0 0 L.G3 p (by decide) hpb HLv _ HW7.out (HTi.out _ HW7.out)).mono ?_); rintro e w7 ⟨rfl, hb⟩; have HW8 := Lib.hid (HW7.out.below hb); have HK8 := Lib.hid (HK7.out.below hb); clear hb; clear q0 q1 q2 q3 q4; have q0 := HK8.out.c0; have q1 := HK8.out.c1; have q2 := HK8.out.c2; have q3 := HK8.out.c3; have q4 := HK8.out.c4)
    | (go_at_call 89; (with_reducible refine (bgive_y 4 0 0 (Lib.hid rfl) 0 0 0 L.G3 p (p : Int) (Lib.hid rfl) (by decide) hpb HLv HG2 HUb _ HW8.out (HTi.out _ HW8.out) HGb.out).mono ?_); rintro e w9 ⟨rfl, hW, hu⟩; rw [← HDe.out] at hW; have HW9 := Lib.hid hW; have HK9 := Lib.hid (HK8.out.upt hu HKb.out); clear hW hu; clear q0 q1 q2 q3 q4; have q0 := HK9.out.c0; have q1 := HK9.out.c1; have q2 := HK9.out.c2; have q3 := HK9.out.c3; have q4 := HK9.out.c4)
    | (go_at_call 88; (with_reducible refine (bowner_dead 4 0 0 0 0 HDd _ HW9.out).mono ?_); rintro e w10 ⟨rfl, hb⟩; have HW10 := Lib.hid (HW9.out.below hb); have HK10 := Lib.hid (HK9.out.below hb); clear hb; clear q0 q1 q2 q3 q4; have q0 := HK10.out.c0; have q1 := HK10.out.c1; have q2 := HK10.out.c2; have q3 := HK10.out.c3; have q4 := HK10.out.c4)
    | (go_at_call 78; (with_reducible refine (bused_is 0 0 0 (Lib.hid rfl) h0e HW10.out.nn HUs _ HW10.out.kk).mono ?_); rintro e w11 ⟨rfl, rfl⟩)
    | (go_at_call 89; (with_reducible refine (bgive_none 4 0 0 0 0 p hpe HDd (eV (sA A 4)) _ HW10.out (HS1.out.below HW10.out.bel).c4 (HS1.out.below HW10.out.bel).s4).mono ?_); rintro e w12 ⟨rfl, hb⟩; have HW12 := Lib.hid (HW10.out.below hb); clear hb)
    | (go_at_call 20; (with_reducible refine (is_sen A 4 105 (by decide) (Lib.hid (by decide)) _ (HS1.out.below HW12.out.bel)).mono ?_); rintro e w13 ⟨rfl, hb⟩; have HW13 := Lib.hid (HW12.out.below hb); clear hb))
  go_ret
  exact ⟨rfl, HB1.out.trans (HW13.out.bel.mono HB1.out.size)⟩
theorem walk_BankOwns (a0 : Int) (a1 : Int) (a2 : Int) (w : World) (w0 : (Lit.int .i64 a0).wf = true) (w1 : (Lit.int .i64 a1).wf = true) (w2 : (Lit.int .i64 a2).wf = true) (hL : laidMetH Tryd.prog Rows.bankOwnsRow.laid w) :
    Calls Tryd.prog 10 #[.int .i64 a0, .int .i64 a1, .int .i64 a2] w fun e w' => e = .returned (.bool true) ∧ Below w.heap.size w w' := by
  have hS := (sen_of hL (by intro n hn; simp only [List.mem_cons, List.not_mem_nil, or_false] at hn; rcases hn with rfl | rfl | rfl | rfl | rfl | rfl | rfl | rfl | rfl | rfl | rfl | rfl <;> exact ⟨_, by repeat (first | exact List.Mem.head _ | apply List.Mem.tail)⟩))
  clear hL
  obtain ⟨R, hR, CR⟩ := number_nat a0 3 3 rfl (by decide) (by decide) (fit64 w0).1 (fit64 w0).2
  obtain ⟨p, hp, CP⟩ := number_nat a1 4 4 rfl (by decide) (by decide) (fit64 w1).1 (fit64 w1).2
  obtain ⟨q, hq, CQ⟩ := number_nat a2 4 4 rfl (by decide) (by decide) (fit64 w2).1 (fit64 w2).2
  by_cases hpq : q = p
  · rcases (show R = 0 ∨ R = 1 ∨ R = 2 by omega) with rfl | rfl | rfl
    · exact bowns_0s a0 a1 a2 p q hp hq hpq (Lib.hid CR) (Lib.hid CP) (Lib.hid CQ) w _ hS
    · exact bowns_1s a0 a1 a2 p q hp hq hpq (Lib.hid CR) (Lib.hid CP) (Lib.hid CQ) w _ hS
    · exact bowns_2s a0 a1 a2 p q hp hq hpq (Lib.hid CR) (Lib.hid CP) (Lib.hid CQ) w _ hS
  · rcases (show R = 0 ∨ R = 1 ∨ R = 2 by omega) with rfl | rfl | rfl
    · exact bowns_0d a0 a1 a2 p q hp hq hpq (Lib.hid CR) (Lib.hid CP) (Lib.hid CQ) w _ hS
    · exact bowns_1d a0 a1 a2 p q hp hq hpq (Lib.hid CR) (Lib.hid CP) (Lib.hid CQ) w _ hS
    · exact bowns_2d a0 a1 a2 p q hp hq hpq (Lib.hid CR) (Lib.hid CP) (Lib.hid CQ) w _ hS
end Go.Proofs.YtkogmhgpkacehaaDoor
