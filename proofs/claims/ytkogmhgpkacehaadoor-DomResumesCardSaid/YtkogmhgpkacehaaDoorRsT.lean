/-
  Dr as one.
-/
import Derived.Test.YtkogmhgpkacehaaDoorDs4
import Derived.Test.YtkogmhgpkacehaaDoorP9
namespace Go.Proofs.YtkogmhgpkacehaaDoor
open Go.ChangeShapes Go.WideShapes Go.ChangeAt Go.RowKit
set_option linter.unusedVariables false
set_option linter.unusedSimpArgs false
theorem updS_D1 (W : Nat → Nat → Value) (i j : Nat) (hj : j < 107) : updS W i 0 zsD1 i j = zd1 j := by
  have h := updS_in W i 0 zsD1 j (by rw [zsD1_len]; exact hj)
  rw [Nat.zero_add, zsD1_get j hj] at h
  exact Option.some.inj h
theorem updS_row (W : Nat → Nat → Value) (i j : Nat) (f : Nat → Value) (hj : j < 107) : updS W i 0 (rowL f) i j = f j := by
  have h := updS_in W i 0 (rowL f) j (by rw [rowL_len]; exact hj)
  rw [Nat.zero_add, rowL_at f j hj] at h
  exact Option.some.inj h
theorem zd1_one (j : Nat) : (zd1 j).oneCell' = true := by
  unfold zd1
  split
  · rfl
  · exact zd_one j
/-- A domain of such a state, such a wait. -/
def fX (s wt : Int) (j : Nat) : Value := if j = 9 then .int .i64 s else if j = 106 then .int .i64 wt else zd1 j
theorem fX_one (s wt : Int) (j : Nat) : (fX s wt j).oneCell' = true := by
  unfold fX
  split
  · rfl
  · split
    · rfl
    · exact zd1_one j
theorem fX_keys (s wt : Int) : KeysIn (fX s wt) (fun _ _ => 0) := fun q r hq hr => by
  have e : (11 + (q * 5 + r) - 11) % 5 = r := by omega
  unfold fX zd1 zd kval
  rw [if_neg (by omega), if_neg (by omega), if_neg (by omega), if_neg (by omega), if_neg (by omega), if_neg (by omega), e]
theorem zero_right : ∀ q, q < 19 → KRight (fun _ _ => 0) q := fun q _ => by show rightB 0 0 0 0 0 = true; decide
theorem fX_zd1 : fX 1 0 = zd1 := by
  funext j
  unfold fX zd1 zd
  by_cases h : j = 9
  · simp [h]
  · by_cases h2 : j = 106
    · simp [h2]
    · simp [h, h2]
theorem range_at {w : World} {b : Nat} {f : Nat → Value} (h : w.rangeAt b 0 (rowL f)) (j : Nat) (hj : j < 107) : w.cell? ⟨b, j, none⟩ = some (f j) := by
  have := h j _ (rowL_at f j hj)
  rwa [Nat.zero_add] at this
theorem range_put {w : World} {b : Nat} {s wt s' wt' : Int} (h : w.rangeAt b 0 (rowL (fX s wt))) : ((w.setCell ⟨b, 9, none⟩ (.int .i64 s')).setCell ⟨b, 106, none⟩ (.int .i64 wt')).rangeAt b 0 (rowL (fX s' wt')) := fun j v hv => by
  obtain ⟨hj, rfl⟩ := rowL_src _ j v hv
  rw [Nat.zero_add]
  have hc := range_at h j hj
  by_cases h2 : j = 106
  · subst h2
    have hh : (w.setCell ⟨b, 9, none⟩ (.int .i64 s')).cell? ⟨b, 106, none⟩ = some (fX s wt 106) := by
      rw [World.cell?_setCell_other _ _ _ _ (by simp)]
      exact hc
    exact (World.cell?_setCell_same _ _ _ hh).trans (by simp [fX])
  · rw [World.cell?_setCell_other _ _ _ _ (by simp [h2])]
    by_cases h9 : j = 9
    · subst h9
      exact (World.cell?_setCell_same _ _ _ hc).trans (by simp [fX])
    · rw [World.cell?_setCell_other _ _ _ _ (by simp [h9]), hc]
      simp [fX, h9, h2]
theorem dsize_cells (x : Nat) : ∀ (cs : List Value) (o : Nat) (w : World), (w.setCells x o cs).heap.size = w.heap.size := by
  intro cs
  induction cs with
  | nil => intro o w; rfl
  | cons u r ih => intro o w; exact (ih (o + 1) _).trans (by simp)
theorem z_castD : (0 : Int) = ((0 : Nat) : Int) := rfl
set_option maxRecDepth 100000 in
set_option maxHeartbeats 2000000 in
theorem dfirst_is (w : World) : Calls Tryd.prog 50 #[] w fun e w' => e = .returned (.bool true) ∧ Below w.heap.size w w' := by
  go_enter Tryd.func50, Tryd.ntmps50
  go_upto_region 6 with (first
    | (go_at_call 51; (with_reducible refine (dnew_ok 3 3 (Lib.hid rfl) (by decide) (by decide) _).mono ?_); rintro e w1 ⟨P, p, B, G, Q, rfl, hD, hb⟩; have HD := Lib.hid hD; have HB := Lib.hid hb; clear hD hb)
    | (go_at_call 55; (with_reducible refine (dmake_ok 0 (by decide) (Lib.hid (by decide)) (Lib.hid (by intro i hi; omega)) 0 (Lib.hid rfl) _ HD.out).mono ?_); rintro e w2 ⟨rfl, hD, hb⟩; have HD2 := Lib.hid hD; have HB2 := Lib.hid (HB.out.trans (hb.below HD.out.pl.ar.lt.1 HD.out.pl.gl.1 HB.out.size)); clear hD hb)
    | (go_at_call 65; (with_reducible refine (dget_ok 0 0 (Lib.hid z_castD) (by decide) (Lib.hid (by decide)) zd1 (Lib.hid (fun j hj => updS_D1 _ 0 j hj)) (Lib.hid (fun j _ => zd1_one j)) _ HD2.out).mono ?_); rintro e w3 ⟨rfl, hb⟩; have HB3 := Lib.hid (HB2.out.trans (hb.mono HB2.out.size)); clear hb)
    | (refine wpList_store_mid (by rfl) _ _ _ (by rfl) w3.heap.size 0 (rowL zd1).toArray (by rfl) (by rfl) (by rw [rowL_size]; exact dthere_new _ _ 107 (by rfl) _) (by rw [rowL_size]; exact infoDomS) (rowL_one zd1 (fun j _ => zd1_one j)) ?_))
  generalize hA : World.setCells _ w3.heap.size 0 _ = w5
  have HA : Hid (Below w.heap.size w w5 ∧ w5.rangeAt w3.heap.size 0 (rowL zd1)) := Lib.hid (by
    rw [← hA]
    exact ⟨dbelow_cells (HB3.out.alloc HB3.out.size _) HB3.out.size _ _, World.rangeAt_setCells_same _ _ 0 (rowL zd1) (by rw [rowL_len]; exact dthere_new _ _ 107 (by rfl) _)⟩)
  clear hA
  have c9 : w5.cell? ⟨w3.heap.size, 9, none⟩ = some (.int .i64 1) := range_at HA.out.2 9 (by decide)
  go_wp2_with fail
  go_ret
  exact ⟨rfl, HA.out.1⟩
theorem KeyC.five {w : World} {b : Nat} {k0 k1 k2 k3 k4 : Int} (h : KeyC w b k0 k1 k2 k3 k4) : (World.cell? w ⟨b, 0, none⟩ = some (.int .i64 k0) ∧ World.cell? w ⟨b, 1, none⟩ = some (.int .i64 k1) ∧ World.cell? w ⟨b, 2, none⟩ = some (.int .i64 k2) ∧ World.cell? w ⟨b, 3, none⟩ = some (.int .i64 k3) ∧ World.cell? w ⟨b, 4, none⟩ = some (.int .u32 k4)) := ⟨h.c0, h.c1, h.c2, h.c3, h.c4⟩
theorem DsAt.off {w w' : World} {base P p B G Q n c : Nat} {th : Nat → Bool} {vr : Nat → Int} {W : Nat → Nat → Value} (h : DsAt w base P p B G Q n c th vr W) (hs : w.heap.size ≤ w'.heap.size) (be M : Nat) (hM : M ≤ be) (h0 : P < M ∧ p < M ∧ B < M ∧ G < M ∧ Q < M) (hk : ∀ k, k ≠ be → w'.heap[k]? = w.heap[k]?) : DsAt w' base P p B G Q n c th vr W := by
  have row : ∀ {e s m : Nat} {g : Nat} {xs : List Value}, w.ownsRow base e s (.slice (some ⟨g, 0, none⟩) m m) m xs → w'.heap[g]? = w.heap[g]? → w'.ownsRow base e s (.slice (some ⟨g, 0, none⟩) m m) m xs := fun {e s m g xs} hr hb => by
    refine ⟨hr.1, ?_⟩
    rcases hr.2 with hn | ⟨g', cap, cur, e', hB, hg, rest⟩
    · exact .inl hn
    · refine .inr ⟨g', cap, cur, e', hB, ?_, rest⟩
      simp at e'
      rw [← e'.1, hb, e'.1]; exact hg
  have hP := hk P (by omega)
  refine ⟨⟨Nat.lt_of_lt_of_le h.pl.pl hs, h.pl.pb, (World.cell?_of_block (a := ⟨P, 0, none⟩) hP).trans h.pl.f0, (World.cell?_of_block (a := ⟨P, 1, none⟩) hP).trans h.pl.f1, ⟨Nat.lt_of_lt_of_le h.pl.ar.pl hs, h.pl.ar.pb, (World.cell?_of_block (a := ⟨p, 0, none⟩) (hk p (by omega))).trans h.pl.ar.fld, ?_, h.pl.ar.ne, h.pl.ar.le⟩, row h.pl.row (hk G (by omega)), h.pl.n1, h.pl.n2, h.pl.n3, h.pl.n4⟩, (World.cell?_of_block (a := ⟨P, 2, none⟩) hP).trans h.f2, row h.qs (hk Q (by omega)), h.q1, h.q2, h.q3⟩
  refine ⟨h.pl.ar.own.1, ?_⟩
  rcases h.pl.ar.own.2 with hn | ⟨g', cap, cur, e', hB', hg, rest⟩
  · exact .inl hn
  · refine .inr ⟨g', cap, cur, e', hB', ?_, rest⟩
    simp at e'
    rw [← e'.1, hk B (by omega), e'.1]; exact hg
theorem samekey_self (k0 k1 k2 k3 k4 : Int) (w : World) : Calls Tryd.prog 24 #[(Value.agg #[.int .i64 k0, .int .i64 k1, .int .i64 k2, .int .i64 k3, .int .u32 k4]), (Value.agg #[.int .i64 k0, .int .i64 k1, .int .i64 k2, .int .i64 k3, .int .u32 k4])] w fun e w' => e = .returned (.bool true) ∧ Below w.heap.size w w' :=
  (samekey_any k0 k1 k2 k3 k4 k0 k1 k2 k3 k4 w).mono fun e w' ⟨h1, h2⟩ => ⟨by rw [h1]; simp [sameB], h2⟩
theorem aver_x {base p B n c : Nat} {th : Nat → Bool} {vr : Nat → Int} (x : Int) (k : Nat) (hx : Hid (x = (k : Int))) (hk : k < n) (v : Int) (hv : Hid (vr k = v)) (w : World) (hA : ArAt w base p B n c th vr) : Calls Tryd.prog 72 #[.pointer (some ⟨p, 0, none⟩), .int .i64 x] w fun e w' => e = .returned (.int .i64 v) ∧ w = w' := by
  rw [hx.out]; exact aver_in k hk v hv w hA
theorem KeyC.pbl {w w' : World} {b B G : Nat} {k0 k1 k2 k3 k4 : Int} (h : KeyC w b k0 k1 k2 k3 k4) (hb : PBelow w w' B G) (h1 : b ≠ B) (h2 : b ≠ G) : KeyC w' b k0 k1 k2 k3 k4 := h.same' hb.2.2.2.1 (hb.2.2.2.2 b h.lt h1 h2)
theorem dend_x {base P p B G Q n c : Nat} {th : Nat → Bool} {vr_ : Nat → Int} {W : Nat → Nat → Value} (x : Int) (k : Nat) (hx : Hid (x = (k : Int))) (hk : k < n) (ht : Hid (th k = true)) (v : Int) (hv : Hid (vr_ k = v)) (v0 : -1000000000 ≤ v) (v1 : v ≤ 1000000000) (w : World) (h : DsAt w base P p B G Q n c th vr_ W) :
    Calls Tryd.prog 63 #[.pointer (some ⟨P, 0, none⟩), .int .i64 x] w fun e w' => e = .returned .nilIface ∧ DsAt w' base P p B G Q n c (upd th k false) (upd vr_ k (v + 1)) W ∧ PBelow w w' B G := by
  rw [hx.out]; exact dend_ok k hk ht v hv v0 v1 w h
set_option maxRecDepth 100000 in
set_option maxHeartbeats 8000000 in
theorem dres_yes (a0 a1 : Int) (R M : Nat) (wt : Int) (hM : M < 1000) (CR : Hid (∀ w, Calls Tryd.prog 71 #[.int .i64 a0, .int .i64 4] w fun e w' => e = .returned (.int .i64 1) ∧ w = w')) (CM : Hid (∀ w, Calls Tryd.prog 71 #[.int .i64 a1, .int .i64 1000] w fun e w' => e = .returned (.int .i64 wt) ∧ w = w')) (hwt : Hid (wt = (M : Int))) (w : World) (vs vr : Value) (hE : ErrsAt vs vr w) :
    Calls Tryd.prog 7 #[.int .i64 a0, .int .i64 a1] w fun e w' => e = .returned (.bool true) ∧ Below w.heap.size w w' := by
  have HE := Lib.hid hE
  have u1 : 0 ≤ wt := by have := hwt.out; omega
  have u2 : wt ≤ 536870911 := by have := hwt.out; omega
  have hw : IntKind.u32.wrap wt = wt := by rw [IntKind.wrap_u32]; omega
  have s1 : 1 ≤ (2 : Int) := by omega
  have s2 : (2 : Int) ≤ 4 := by omega
  clear hE hM
  go_enter Tryd.func7, Tryd.ntmps7
  go_upto_region 11 with (first
    | (go_at_call 50; (with_reducible refine (dfirst_is _).mono ?_); rintro e w1 ⟨rfl, hb1⟩; have HB1 := Lib.hid hb1; clear hb1)
    | (go_at_call 71; (with_reducible refine (CR.out _).mono ?_); rintro e w2 ⟨rfl, rfl⟩)
    | (go_at_call 71; (with_reducible refine (CM.out _).mono ?_); rintro e w2 ⟨rfl, rfl⟩)
    | (go_at_call 51; (with_reducible refine (dnew_ok 2 2 (Lib.hid rfl) (by decide) (by decide) _).mono ?_); rintro e wN ⟨P, p, B, G, Q, rfl, hD, hb⟩; have HD := Lib.hid hD; have HB := Lib.hid (HB1.out.trans (hb.mono HB1.out.size)); have HLo : Hid (w.heap.size ≤ B ∧ w.heap.size ≤ G) := Lib.hid ⟨Nat.le_trans HB1.out.size hD.pl.ar.lt.1, Nat.le_trans HB1.out.size hD.pl.gl.1⟩; clear hD hb)
    | (go_at_call 55; (with_reducible refine (dmake_ok 0 (by decide) (Lib.hid (by decide)) (Lib.hid (by intro i hi; omega)) 0 (Lib.hid rfl) _ HD.out).mono ?_); rintro e w2 ⟨rfl, hD, hb⟩; have HD2 := Lib.hid hD; have HB2 := Lib.hid (HB.out.trans (hb.below HLo.out.1 HLo.out.2 HB.out.size)); clear hD hb)
    | (go_at_call 65; (with_reducible refine (dget_ok 0 0 (Lib.hid z_castD) (by decide) (Lib.hid (by decide)) zd1 (Lib.hid (fun j hj => updS_D1 _ 0 j hj)) (Lib.hid (fun j _ => zd1_one j)) _ HD2.out).mono ?_); rintro e w3 ⟨rfl, hb⟩; have HB3 := Lib.hid (HB2.out.trans (hb.mono HB2.out.size)); have HD3 := Lib.hid (HD2.out.below hb); clear hb)
    | (refine wpList_store_mid (by rfl) _ _ _ (by rfl) w3.heap.size 0 (rowL zd1).toArray (by rfl) (by rfl) (by rw [rowL_size]; exact dthere_new _ _ 107 (by rfl) _) (by rw [rowL_size]; exact infoDomS) (rowL_one zd1 (fun j _ => zd1_one j)) ?_))
  generalize hA : World.setCells _ w3.heap.size 0 _ = w5
  obtain ⟨xb, hxb⟩ : ∃ xb, xb = w3.heap.size := ⟨_, rfl⟩
  have HA : Hid (Below w3.heap.size w3 w5 ∧ w5.rangeAt xb 0 (rowL (fX 1 0)) ∧ xb < w5.heap.size ∧ (∀ j, w5.frozen? ⟨xb, j, none⟩ = false) ∧ w3.heap.size ≤ xb) := Lib.hid (by
    rw [← hA, hxb, fX_zd1]
    exact ⟨dbelow_cells ((Below.refl _ _).alloc (Nat.le_refl _) _) (Nat.le_refl _) _ _, World.rangeAt_setCells_same _ _ 0 (rowL zd1) (by rw [rowL_len]; exact dthere_new _ _ 107 (by rfl) _), by rw [dsize_cells]; simp, fun j => by rw [World.frozen?_setCells]; simp, Nat.le_refl _⟩)
  rw [← hxb]
  clear hA hxb
  have c9 := range_at HA.out.2.1 9 (by decide)
  have c106 := range_at HA.out.2.1 106 (by decide)
  have z9 := HA.out.2.2.2.1 9
  have z106 := HA.out.2.2.2.1 106
  have HD5 := Lib.hid (HD3.out.below HA.out.1)
  go_upto_region 13 with fail
  generalize hA : World.setCell (World.setCell w5 _ _) _ _ = w6
  have HA6 : Hid (w6.rangeAt xb 0 (rowL (fX (2 : Int) wt)) ∧ Below w3.heap.size w3 w6) := Lib.hid (by rw [← hA]; exact ⟨range_put HA.out.2.1, (HA.out.1.setCell HA.out.2.2.2.2 _).setCell HA.out.2.2.2.2 _⟩)
  clear hA c9 c106 z9 z106
  have HD6 := Lib.hid (HD3.out.below HA6.out.2)
  have HB6 := Lib.hid (HB3.out.trans (HA6.out.2.mono HB3.out.size))
  have HE6 := Lib.hid (HE.out.below HB6.out)
  obtain ⟨W7, HW7⟩ : ∃ W7 : Nat → Nat → Value, Hid (W7 = updS (updS (fun _ b => zd b) 0 0 zsD1) 0 0 (rowL (fX (2 : Int) wt))) := ⟨_, Lib.hid rfl⟩
  have HS7 : Hid (W7 0 9 = .int .i64 (2 : Int) ∧ W7 0 106 = .int .i64 wt) := Lib.hid (by rw [HW7.out, updS_row _ 0 9 _ (by decide), updS_row _ 0 106 _ (by decide)]; exact ⟨rfl, rfl⟩)
  obtain ⟨th7, HT7⟩ : ∃ th7 : Nat → Bool, Hid (th7 = upd (fun _ => false) 0 true) := ⟨_, Lib.hid rfl⟩
  have HT0 : Hid (th7 0 = true) := Lib.hid (by rw [HT7.out]; rfl)
  go_upto_region 15 with (first
    | (refine wpList_load_mid (by rfl) _ _ (by rfl) xb 0 (by rfl) (rowL (fX (2 : Int) wt)) _ HA6.out.1 Tryd.underlying114 rfl (by rw [rowL_len]; exact infoDomS) ?_)
    | (go_at_call 58; (with_reducible refine (dput_ok 0 0 (Lib.hid z_castD) (by decide) (Lib.hid (by decide)) (fX (2 : Int) wt) (fun _ _ => 0) (Lib.hid (fun j _ => fX_one _ _ j)) (Lib.hid (fX_keys _ _)) (Lib.hid zero_right) (2 : Int) 0 wt (Lib.hid ⟨rfl, rfl, rfl⟩) s1 s2 (by decide) (by decide) u1 u2 vs vr _ HE6.out HD6.out).mono ?_); rintro e w7 ⟨rfl, hD, hb⟩; rw [← HW7.out, ← HT7.out] at hD; have HD7 := Lib.hid hD; have HB7 := Lib.hid (HB6.out.trans (hb.below HLo.out.1 HLo.out.2 HB6.out.size)); clear hD hb))
  have HR7 := Lib.hid (dresume_yes (n := 2) (vr_ := fun _ => 0) 0 0 (Lib.hid z_castD) (by decide) HT0 wt HS7 u1 u2 0 (Lib.hid rfl) w7 HD7.out)
  go_upto_region 16 with (first
    | (go_at_call 70; (with_reducible refine HR7.out.mono ?_); rintro e w8 ⟨rfl, hb⟩; have HD8 := Lib.hid (HD7.out.below hb); have HB8 := Lib.hid (HB7.out.trans (hb.mono HB7.out.size)); clear hb))
  generalize ha : World.alloc w8 _ = w9; obtain ⟨ba, hba⟩ : ∃ ba, ba = w8.heap.size := ⟨_, rfl⟩; have HBa : Hid (Below w8.heap.size w8 w9) := Lib.hid (by rw [← ha]; exact (Below.refl _ _).alloc (Nat.le_refl _) _); have HKa : Hid (KeyC w9 ba 6 0 0 0 wt) := Lib.hid (by rw [← ha, hba]; exact KeyC.new w8 6 0 0 0 wt _); have HLa : Hid (w8.heap.size ≤ ba) := Lib.hid (by rw [hba]; exact Nat.le_refl _); rw [← hba]; clear ha hba
  have HD9 := Lib.hid (HD8.out.below HBa.out)
  have HB9 := Lib.hid (HB8.out.trans (HBa.out.mono HB8.out.size))
  go_upto_region 17 with (first
    | (go_at_call 68; (with_reducible refine (ddoor_of (P := P) 0 wt 5 0 0 0 wt _ (fun W hb => dkeyof_in 5 0 wt 0 (Lib.hid z_castD) (by decide) HT0 u2 0 (Lib.hid rfl) W (HD9.out.below hb))).mono ?_); rintro e w10 ⟨rfl, hb⟩; have HD10 := Lib.hid (HD9.out.below hb); have HB10 := Lib.hid (HB9.out.trans (hb.mono HB9.out.size)); have HS10 := Lib.hid hb.size; have HKa1 := Lib.hid (HKa.out.below hb); clear hb))
  generalize hb : World.alloc w10 _ = w11; obtain ⟨bb, hbb⟩ : ∃ bb, bb = w10.heap.size := ⟨_, rfl⟩; have HBb : Hid (Below w10.heap.size w10 w11) := Lib.hid (by rw [← hb]; exact (Below.refl _ _).alloc (Nat.le_refl _) _); have HKb : Hid (KeyC w11 bb 5 0 0 0 wt) := Lib.hid (by rw [← hb, hbb]; exact KeyC.new w10 5 0 0 0 wt _); have HLb : Hid (w10.heap.size ≤ bb) := Lib.hid (by rw [hbb]; exact Nat.le_refl _); rw [← hbb]; clear hb hbb
  have HD11 := Lib.hid (HD10.out.below HBb.out)
  have HB11 := Lib.hid (HB10.out.trans (HBb.out.mono HB10.out.size))
  have HKa2 := Lib.hid (HKa1.out.below HBb.out)
  go_upto_region 18 with (first
    | (go_at_call 68; (with_reducible refine (ddoor_of (P := P) 0 536870912 0 0 0 0 0 _ (fun W hb => dkeyof_big 5 0 536870912 0 (Lib.hid z_castD) (by decide) HT0 (by decide) W (HD11.out.below hb))).mono ?_); rintro e w12 ⟨rfl, hb⟩; have HD12 := Lib.hid (HD11.out.below hb); have HB12 := Lib.hid (HB11.out.trans (hb.mono HB11.out.size)); have HS12 := Lib.hid hb.size; have HKa3 := Lib.hid (HKa2.out.below hb); have HKb3 := Lib.hid (HKb.out.below hb); clear hb))
  generalize hc : World.alloc w12 _ = w13; obtain ⟨bc, hbc⟩ : ∃ bc, bc = w12.heap.size := ⟨_, rfl⟩; have HBc : Hid (Below w12.heap.size w12 w13) := Lib.hid (by rw [← hc]; exact (Below.refl _ _).alloc (Nat.le_refl _) _); have HKc : Hid (KeyC w13 bc 0 0 0 0 0) := Lib.hid (by rw [← hc, hbc]; exact KeyC.new w12 0 0 0 0 0 _); have HLc : Hid (w12.heap.size ≤ bc) := Lib.hid (by rw [hbc]; exact Nat.le_refl _); rw [← hbc]; clear hc hbc
  have HD13 := Lib.hid (HD12.out.below HBc.out)
  have HB13 := Lib.hid (HB12.out.trans (HBc.out.mono HB12.out.size))
  have HKa4 := Lib.hid (HKa3.out.below HBc.out)
  have HKb4 := Lib.hid (HKb3.out.below HBc.out)
  have HGl : Hid (B < w8.heap.size ∧ G < w8.heap.size) := Lib.hid ⟨HD8.out.pl.ar.lt.2, HD8.out.pl.gl.2⟩
  have HSz : Hid (w8.heap.size ≤ w9.heap.size ∧ w9.heap.size ≤ w10.heap.size ∧ w10.heap.size ≤ w11.heap.size ∧ w11.heap.size ≤ w12.heap.size) := Lib.hid ⟨HBa.out.size, HS10.out, HBb.out.size, HS12.out⟩
  go_upto_region 20 with (first
    | (go_at_call 63; (with_reducible refine (dend_x 0 0 (Lib.hid z_castD) (by decide) HT0 0 (Lib.hid rfl) (by decide) (by decide) _ HD13.out).mono ?_); rintro e w14 ⟨rfl, hD, hb⟩; have HD14 := Lib.hid hD; have HB14 := Lib.hid (HB13.out.trans (hb.below HLo.out.1 HLo.out.2 HB13.out.size)); have HKa5 := Lib.hid (HKa4.out.pbl hb (by have := HGl.out; have := HLa.out; omega) (by have := HGl.out; have := HLa.out; omega)); have HKb5 := Lib.hid (HKb4.out.pbl hb (by have := HGl.out; have := HLb.out; have := HSz.out; omega) (by have := HGl.out; have := HLb.out; have := HSz.out; omega)); have HKc5 := Lib.hid (HKc.out.pbl hb (by have := HGl.out; have := HLc.out; have := HSz.out; omega) (by have := HGl.out; have := HLc.out; have := HSz.out; omega)); clear hD hb))
  go_upto_region 21 with fail
  generalize hd : World.alloc w14 _ = w15; obtain ⟨bd, hbd⟩ : ∃ bd, bd = w14.heap.size := ⟨_, rfl⟩; have HBd : Hid (Below w14.heap.size w14 w15) := Lib.hid (by rw [← hd]; exact (Below.refl _ _).alloc (Nat.le_refl _) _); have HKd : Hid (KeyC w15 bd 0 0 0 0 0) := Lib.hid (by rw [← hd, hbd]; exact KeyC.new w14 0 0 0 0 0 _); have HLd : Hid (w14.heap.size ≤ bd) := Lib.hid (by rw [hbd]; exact Nat.le_refl _); rw [← hbd]; clear hd hbd
  have HD15 := Lib.hid (HD14.out.below HBd.out)
  have HB15 := Lib.hid (HB14.out.trans (HBd.out.mono HB14.out.size))
  have HKa6 := Lib.hid (HKa5.out.below HBd.out)
  have HKb6 := Lib.hid (HKb5.out.below HBd.out)
  have HKc6 := Lib.hid (HKc5.out.below HBd.out)
  have q0 := HKd.out.c0
  have q1 := HKd.out.c1
  have q2 := HKd.out.c2
  have q3 := HKd.out.c3
  have q4 := HKd.out.c4
  go_upto_region 23 with fail
  generalize he : World.alloc w15 _ = w16; obtain ⟨be, hbe⟩ : ∃ be, be = w15.heap.size := ⟨_, rfl⟩; have HBe : Hid (Below w15.heap.size w15 w16) := Lib.hid (by rw [← he]; exact (Below.refl _ _).alloc (Nat.le_refl _) _); have HKe : Hid (KeyC w16 be 0 0 0 0 0) := Lib.hid (by rw [← he, hbe]; exact KeyC.new w15 0 0 0 0 0 _); have HLe : Hid (w15.heap.size ≤ be) := Lib.hid (by rw [hbe]; exact Nat.le_refl _); rw [← hbe]; clear he hbe
  clear q0 q1 q2 q3 q4
  have HD16 := Lib.hid (HD15.out.below HBe.out)
  have HB16 := Lib.hid (HB15.out.trans (HBe.out.mono HB15.out.size))
  have HKa7 := Lib.hid (HKa6.out.below HBe.out)
  have HKb7 := Lib.hid (HKb6.out.below HBe.out)
  have HKc7 := Lib.hid (HKc6.out.below HBe.out)
  have HKd7 := Lib.hid (HKd.out.below HBe.out)
  have g0 := HKe.out.fr 0
  have g1 := HKe.out.fr 1
  have g2 := HKe.out.fr 2
  have g3 := HKe.out.fr 3
  have g4 := HKe.out.fr 4
  have q0 := HKe.out.c0
  have q1 := HKe.out.c1
  have q2 := HKe.out.c2
  have q3 := HKe.out.c3
  have q4 := HKe.out.c4
  go_upto_region 25 with fail
  generalize hA : World.setCell (World.setCell (World.setCell (World.setCell (World.setCell w16 _ _) _ _) _ _) _ _) _ _ = w17
  have HKe8 : Hid (KeyC w17 be 6 0 0 0 wt) := Lib.hid (by rw [← hA]; exact HKe.out.set 6 0 0 0 wt)
  have hko : ∀ k, k ≠ be → w17.heap[k]? = w16.heap[k]? := fun k hk => by
    have hb : ∀ (v : World) (j : Nat) (u : Value), (v.setCell ⟨be, j, none⟩ u).heap[k]? = v.heap[k]? := fun v j u => Below.heap_setCell _ _ _ _ (fun e => hk (by simpa using e))
    rw [← hA, hb, hb, hb, hb, hb]
  have hsz : w17.heap.size = w16.heap.size := by rw [← hA]; simp
  have HB17 : Hid (Below w.heap.size w w17) := Lib.hid (by
    have hbe : w.heap.size ≤ be := Nat.le_trans HB15.out.size HLe.out
    rw [← hA]; exact ((((HB16.out.setCell hbe _).setCell hbe _).setCell hbe _).setCell hbe _).setCell hbe _)
  have HD17 := Lib.hid (HD16.out.off (Nat.le_of_eq hsz.symm) be w15.heap.size HLe.out ⟨HD15.out.pl.pl, HD15.out.pl.ar.pl, HD15.out.pl.ar.lt.2, HD15.out.pl.gl.2, (HD15.out.qs.lt Q rfl).2⟩ hko)
  have HKa8 := Lib.hid (HKa7.out.same' (Nat.le_of_eq hsz.symm) (hko _ (by have := HKa6.out.lt; have := HLe.out; omega)))
  have HKb8 := Lib.hid (HKb7.out.same' (Nat.le_of_eq hsz.symm) (hko _ (by have := HKb6.out.lt; have := HLe.out; omega)))
  have HKc8 := Lib.hid (HKc7.out.same' (Nat.le_of_eq hsz.symm) (hko _ (by have := HKc6.out.lt; have := HLe.out; omega)))
  have HKd8 := Lib.hid (HKd7.out.same' (Nat.le_of_eq hsz.symm) (hko _ (by have := HKd.out.lt; have := HLe.out; omega)))
  clear hA hko hsz q0 q1 q2 q3 q4 g0 g1 g2 g3 g4
  obtain ⟨wD, hwD⟩ : ∃ wD, wD = w17.drew := ⟨_, rfl⟩
  have HBD : Hid (Below w17.heap.size w17 wD) := Lib.hid (by rw [hwD]; exact (Below.refl _ _).drew)
  have HSS : Hid (∀ W, Below w17.heap.size w17 W → (World.cell? W ⟨P, 0, none⟩ = some (.pointer (some ⟨p, 0, none⟩)) ∧ (World.cell? W ⟨ba, 0, none⟩ = some (.int .i64 6) ∧ World.cell? W ⟨ba, 1, none⟩ = some (.int .i64 0) ∧ World.cell? W ⟨ba, 2, none⟩ = some (.int .i64 0) ∧ World.cell? W ⟨ba, 3, none⟩ = some (.int .i64 0) ∧ World.cell? W ⟨ba, 4, none⟩ = some (.int .u32 wt)) ∧ (World.cell? W ⟨bb, 0, none⟩ = some (.int .i64 5) ∧ World.cell? W ⟨bb, 1, none⟩ = some (.int .i64 0) ∧ World.cell? W ⟨bb, 2, none⟩ = some (.int .i64 0) ∧ World.cell? W ⟨bb, 3, none⟩ = some (.int .i64 0) ∧ World.cell? W ⟨bb, 4, none⟩ = some (.int .u32 wt)) ∧ (World.cell? W ⟨bc, 0, none⟩ = some (.int .i64 0) ∧ World.cell? W ⟨bc, 1, none⟩ = some (.int .i64 0) ∧ World.cell? W ⟨bc, 2, none⟩ = some (.int .i64 0) ∧ World.cell? W ⟨bc, 3, none⟩ = some (.int .i64 0) ∧ World.cell? W ⟨bc, 4, none⟩ = some (.int .u32 0)) ∧ (World.cell? W ⟨bd, 0, none⟩ = some (.int .i64 0) ∧ World.cell? W ⟨bd, 1, none⟩ = some (.int .i64 0) ∧ World.cell? W ⟨bd, 2, none⟩ = some (.int .i64 0) ∧ World.cell? W ⟨bd, 3, none⟩ = some (.int .i64 0) ∧ World.cell? W ⟨bd, 4, none⟩ = some (.int .u32 0)) ∧ (World.cell? W ⟨be, 0, none⟩ = some (.int .i64 6) ∧ World.cell? W ⟨be, 1, none⟩ = some (.int .i64 0) ∧ World.cell? W ⟨be, 2, none⟩ = some (.int .i64 0) ∧ World.cell? W ⟨be, 3, none⟩ = some (.int .i64 0) ∧ World.cell? W ⟨be, 4, none⟩ = some (.int .u32 wt)))) := Lib.hid (fun W hb => ⟨(HD17.out.below hb).pl.f0, (HKa8.out.below hb).five, (HKb8.out.below hb).five, (HKc8.out.below hb).five, (HKd8.out.below hb).five, (HKe8.out.below hb).five⟩)
  have HTd : Hid (∀ W, Below w17.heap.size w17 W → DsAt W w1.heap.size P p B G Q 2 2 (upd th7 0 false) (upd (fun _ => 0) 0 (0 + 1)) W7) := Lib.hid (fun W hb => HD17.out.below hb)
  have HDe : Hid (upd th7 0 false 0 = false) := Lib.hid (upd_at _ _ _)
  have HVe : Hid (upd (fun _ => (0 : Int)) 0 (0 + 1) 0 = 1) := Lib.hid (by simp [upd])
  refine wp_region_noPanic ?_
  refine wp_region_held_drew (S := fun w' => (World.cell? w' ⟨P, 0, none⟩ = some (.pointer (some ⟨p, 0, none⟩)) ∧ (World.cell? w' ⟨ba, 0, none⟩ = some (.int .i64 6) ∧ World.cell? w' ⟨ba, 1, none⟩ = some (.int .i64 0) ∧ World.cell? w' ⟨ba, 2, none⟩ = some (.int .i64 0) ∧ World.cell? w' ⟨ba, 3, none⟩ = some (.int .i64 0) ∧ World.cell? w' ⟨ba, 4, none⟩ = some (.int .u32 wt)) ∧ (World.cell? w' ⟨bb, 0, none⟩ = some (.int .i64 5) ∧ World.cell? w' ⟨bb, 1, none⟩ = some (.int .i64 0) ∧ World.cell? w' ⟨bb, 2, none⟩ = some (.int .i64 0) ∧ World.cell? w' ⟨bb, 3, none⟩ = some (.int .i64 0) ∧ World.cell? w' ⟨bb, 4, none⟩ = some (.int .u32 wt)) ∧ (World.cell? w' ⟨bc, 0, none⟩ = some (.int .i64 0) ∧ World.cell? w' ⟨bc, 1, none⟩ = some (.int .i64 0) ∧ World.cell? w' ⟨bc, 2, none⟩ = some (.int .i64 0) ∧ World.cell? w' ⟨bc, 3, none⟩ = some (.int .i64 0) ∧ World.cell? w' ⟨bc, 4, none⟩ = some (.int .u32 0)) ∧ (World.cell? w' ⟨bd, 0, none⟩ = some (.int .i64 0) ∧ World.cell? w' ⟨bd, 1, none⟩ = some (.int .i64 0) ∧ World.cell? w' ⟨bd, 2, none⟩ = some (.int .i64 0) ∧ World.cell? w' ⟨bd, 3, none⟩ = some (.int .i64 0) ∧ World.cell? w' ⟨bd, 4, none⟩ = some (.int .u32 0)) ∧ (World.cell? w' ⟨be, 0, none⟩ = some (.int .i64 6) ∧ World.cell? w' ⟨be, 1, none⟩ = some (.int .i64 0) ∧ World.cell? w' ⟨be, 2, none⟩ = some (.int .i64 0) ∧ World.cell? w' ⟨be, 3, none⟩ = some (.int .i64 0) ∧ World.cell? w' ⟨be, 4, none⟩ = some (.int .u32 wt)))) (by kernel_rfl) (by rw [← hwD]; exact HSS.out _ HBD.out) (fun hHeld => ?_)
  rw [← hwD] at hHeld ⊢
  clear hwD
  refine wpAnyH_take (i := 0) (v := ?_) (by rfl) (by kernel_rfl) (by kernel_rfl) (by kernel_rfl) (fun _ _ _ h => h) (Or.inl ⟨by kernel_rfl, ?_⟩) (by assumption) ?_; rotate_left 1; (focus (intro w hSw; (try dsimp only at hSw); simp only [List.getElem_toArray, List.getElem_cons_succ, List.getElem_cons_zero]; all_goals go_simp; all_goals (try with_reducible rfl))); (try simp only [Act.put, List.getElem_toArray, List.getElem_cons_succ, List.getElem_cons_zero, List.setIfInBounds_toArray, List.set_cons_zero, List.set_cons_succ])
  refine wpAnyH_take (i := 1) (v := ?_) (by rfl) (by kernel_rfl) (by kernel_rfl) (by kernel_rfl) (fun _ _ _ h => h) (Or.inl ⟨by kernel_rfl, ?_⟩) (by assumption) ?_; rotate_left 1; (focus (intro w hSw; (try dsimp only at hSw); simp only [List.getElem_toArray, List.getElem_cons_succ, List.getElem_cons_zero]; all_goals go_simp; all_goals (try with_reducible rfl))); (try simp only [Act.put, List.getElem_toArray, List.getElem_cons_succ, List.getElem_cons_zero, List.setIfInBounds_toArray, List.set_cons_zero, List.set_cons_succ])
  refine wpAnyH_take (i := 2) (v := ?_) (by rfl) (by kernel_rfl) (by kernel_rfl) (by kernel_rfl) (fun _ _ _ h => h) (Or.inl ⟨by kernel_rfl, ?_⟩) (by assumption) ?_; rotate_left 1; (focus (intro w hSw; (try dsimp only at hSw); simp only [List.getElem_toArray, List.getElem_cons_succ, List.getElem_cons_zero]; all_goals go_simp; all_goals (try with_reducible rfl))); (try simp only [Act.put, List.getElem_toArray, List.getElem_cons_succ, List.getElem_cons_zero, List.setIfInBounds_toArray, List.set_cons_zero, List.set_cons_succ])
  refine wpAnyH_take (i := 3) (v := ?_) (by rfl) (by kernel_rfl) (by kernel_rfl) (by kernel_rfl) (fun _ _ _ h => h) (Or.inl ⟨by kernel_rfl, ?_⟩) (by assumption) ?_; rotate_left 1; (focus (intro w hSw; (try dsimp only at hSw); simp only [List.getElem_toArray, List.getElem_cons_succ, List.getElem_cons_zero]; all_goals go_simp; all_goals (try with_reducible rfl))); (try simp only [Act.put, List.getElem_toArray, List.getElem_cons_succ, List.getElem_cons_zero, List.setIfInBounds_toArray, List.set_cons_zero, List.set_cons_succ])
  refine wpAnyH_ready (rs := [4]) (by kernel_rfl) (by simp) ?_; refine AllReadyH.cons (by rfl) (fun K hK => ?_) AllReadyH.nil; rw [if_pos (by kernel_rfl)]; simp only [List.getElem_toArray, List.getElem_cons_succ, List.getElem_cons_zero]
  go_wp2_with (first
    | (go_at_call 24; (with_reducible refine (samekey_self 6 0 0 0 wt _).mono ?_); rintro e w18 ⟨rfl, hb⟩; have HB18 := Lib.hid (HBD.out.trans (hb.mono HBD.out.size)); clear hb))
  refine hK.out _ _ (HSS.out w18 (by first | exact HB18.out | exact HB19.out | exact HB20.out | exact HB21.out | exact HB22.out | exact HB23.out)) (fun hHeld => ?_); clear hK; (try simp only [Act.put, List.getElem_toArray, List.getElem_cons_succ, List.getElem_cons_zero, List.setIfInBounds_toArray, List.set_cons_zero, List.set_cons_succ])
  refine wpAnyH_take (i := 5) (v := ?_) (by rfl) (by kernel_rfl) (by kernel_rfl) (by kernel_rfl) (fun _ _ _ h => h) (Or.inl ⟨by kernel_rfl, ?_⟩) (by assumption) ?_; rotate_left 1; (focus (intro w hSw; (try dsimp only at hSw); simp only [List.getElem_toArray, List.getElem_cons_succ, List.getElem_cons_zero]; all_goals go_simp; all_goals (try with_reducible rfl))); (try simp only [Act.put, List.getElem_toArray, List.getElem_cons_succ, List.getElem_cons_zero, List.setIfInBounds_toArray, List.set_cons_zero, List.set_cons_succ])
  refine wpAnyH_take (i := 6) (v := ?_) (by rfl) (by kernel_rfl) (by kernel_rfl) (by kernel_rfl) (fun _ _ _ h => h) (Or.inl ⟨by kernel_rfl, ?_⟩) (by assumption) ?_; rotate_left 1; (focus (intro w hSw; (try dsimp only at hSw); simp only [List.getElem_toArray, List.getElem_cons_succ, List.getElem_cons_zero]; all_goals go_simp; all_goals (try with_reducible rfl))); (try simp only [Act.put, List.getElem_toArray, List.getElem_cons_succ, List.getElem_cons_zero, List.setIfInBounds_toArray, List.set_cons_zero, List.set_cons_succ])
  refine wpAnyH_take (i := 7) (v := ?_) (by rfl) (by kernel_rfl) (by kernel_rfl) (by kernel_rfl) (fun _ _ _ h => h) (Or.inl ⟨by kernel_rfl, ?_⟩) (by assumption) ?_; rotate_left 1; (focus (intro w hSw; (try dsimp only at hSw); simp only [List.getElem_toArray, List.getElem_cons_succ, List.getElem_cons_zero]; all_goals go_simp; all_goals (try with_reducible rfl))); (try simp only [Act.put, List.getElem_toArray, List.getElem_cons_succ, List.getElem_cons_zero, List.setIfInBounds_toArray, List.set_cons_zero, List.set_cons_succ])
  refine wpAnyH_take (i := 8) (v := ?_) (by rfl) (by kernel_rfl) (by kernel_rfl) (by kernel_rfl) (fun _ _ _ h => h) (Or.inl ⟨by kernel_rfl, ?_⟩) (by assumption) ?_; rotate_left 1; (focus (intro w hSw; (try dsimp only at hSw); simp only [List.getElem_toArray, List.getElem_cons_succ, List.getElem_cons_zero]; all_goals go_simp; all_goals (try with_reducible rfl))); (try simp only [Act.put, List.getElem_toArray, List.getElem_cons_succ, List.getElem_cons_zero, List.setIfInBounds_toArray, List.set_cons_zero, List.set_cons_succ])
  refine wpAnyH_take (i := 9) (v := ?_) (by rfl) (by kernel_rfl) (by kernel_rfl) (by kernel_rfl) (fun _ _ _ h => h) (Or.inl ⟨by kernel_rfl, ?_⟩) (by assumption) ?_; rotate_left 1; (focus (intro w hSw; (try dsimp only at hSw); simp only [List.getElem_toArray, List.getElem_cons_succ, List.getElem_cons_zero]; all_goals go_simp; all_goals (try with_reducible rfl))); (try simp only [Act.put, List.getElem_toArray, List.getElem_cons_succ, List.getElem_cons_zero, List.setIfInBounds_toArray, List.set_cons_zero, List.set_cons_succ])
  refine wpAnyH_take (i := 10) (v := ?_) (by rfl) (by kernel_rfl) (by kernel_rfl) (by kernel_rfl) (fun _ _ _ h => h) (Or.inl ⟨by kernel_rfl, ?_⟩) (by assumption) ?_; rotate_left 1; (focus (intro w hSw; (try dsimp only at hSw); simp only [List.getElem_toArray, List.getElem_cons_succ, List.getElem_cons_zero]; all_goals go_simp; all_goals (try with_reducible rfl))); (try simp only [Act.put, List.getElem_toArray, List.getElem_cons_succ, List.getElem_cons_zero, List.setIfInBounds_toArray, List.set_cons_zero, List.set_cons_succ])
  refine wpAnyH_take (i := 11) (v := ?_) (by rfl) (by kernel_rfl) (by kernel_rfl) (by kernel_rfl) (fun _ _ _ h => h) (Or.inl ⟨by kernel_rfl, ?_⟩) (by assumption) ?_; rotate_left 1; (focus (intro w hSw; (try dsimp only at hSw); simp only [List.getElem_toArray, List.getElem_cons_succ, List.getElem_cons_zero]; all_goals go_simp; all_goals (try with_reducible rfl))); (try simp only [Act.put, List.getElem_toArray, List.getElem_cons_succ, List.getElem_cons_zero, List.setIfInBounds_toArray, List.set_cons_zero, List.set_cons_succ])
  refine wpAnyH_take (i := 12) (v := ?_) (by rfl) (by kernel_rfl) (by kernel_rfl) (by kernel_rfl) (fun _ _ _ h => h) (Or.inl ⟨by kernel_rfl, ?_⟩) (by assumption) ?_; rotate_left 1; (focus (intro w hSw; (try dsimp only at hSw); simp only [List.getElem_toArray, List.getElem_cons_succ, List.getElem_cons_zero]; all_goals go_simp; all_goals (try with_reducible rfl))); (try simp only [Act.put, List.getElem_toArray, List.getElem_cons_succ, List.getElem_cons_zero, List.setIfInBounds_toArray, List.set_cons_zero, List.set_cons_succ])
  refine wpAnyH_take (i := 13) (v := ?_) (by rfl) (by kernel_rfl) (by kernel_rfl) (by kernel_rfl) (fun _ _ _ h => h) (Or.inl ⟨by kernel_rfl, ?_⟩) (by assumption) ?_; rotate_left 1; (focus (intro w hSw; (try dsimp only at hSw); simp only [List.getElem_toArray, List.getElem_cons_succ, List.getElem_cons_zero]; all_goals go_simp; all_goals (try with_reducible rfl))); (try simp only [Act.put, List.getElem_toArray, List.getElem_cons_succ, List.getElem_cons_zero, List.setIfInBounds_toArray, List.set_cons_zero, List.set_cons_succ])
  refine wpAnyH_take (i := 14) (v := ?_) (by rfl) (by kernel_rfl) (by kernel_rfl) (by kernel_rfl) (fun _ _ _ h => h) (Or.inl ⟨by kernel_rfl, ?_⟩) (by assumption) ?_; rotate_left 1; (focus (intro w hSw; (try dsimp only at hSw); simp only [List.getElem_toArray, List.getElem_cons_succ, List.getElem_cons_zero]; all_goals go_simp; all_goals (try with_reducible rfl))); (try simp only [Act.put, List.getElem_toArray, List.getElem_cons_succ, List.getElem_cons_zero, List.setIfInBounds_toArray, List.set_cons_zero, List.set_cons_succ])
  refine wpAnyH_take (i := 15) (v := ?_) (by rfl) (by kernel_rfl) (by kernel_rfl) (by kernel_rfl) (fun _ _ _ h => h) (Or.inl ⟨by kernel_rfl, ?_⟩) (by assumption) ?_; rotate_left 1; (focus (intro w hSw; (try dsimp only at hSw); simp only [List.getElem_toArray, List.getElem_cons_succ, List.getElem_cons_zero]; all_goals go_simp; all_goals (try with_reducible rfl))); (try simp only [Act.put, List.getElem_toArray, List.getElem_cons_succ, List.getElem_cons_zero, List.setIfInBounds_toArray, List.set_cons_zero, List.set_cons_succ])
  refine wpAnyH_take (i := 16) (v := ?_) (by rfl) (by kernel_rfl) (by kernel_rfl) (by kernel_rfl) (fun _ _ _ h => h) (Or.inl ⟨by kernel_rfl, ?_⟩) (by assumption) ?_; rotate_left 1; (focus (intro w hSw; (try dsimp only at hSw); simp only [List.getElem_toArray, List.getElem_cons_succ, List.getElem_cons_zero]; all_goals go_simp; all_goals (try with_reducible rfl))); (try simp only [Act.put, List.getElem_toArray, List.getElem_cons_succ, List.getElem_cons_zero, List.setIfInBounds_toArray, List.set_cons_zero, List.set_cons_succ])
  refine wpAnyH_take (i := 17) (v := ?_) (by rfl) (by kernel_rfl) (by kernel_rfl) (by kernel_rfl) (fun _ _ _ h => h) (Or.inl ⟨by kernel_rfl, ?_⟩) (by assumption) ?_; rotate_left 1; (focus (intro w hSw; (try dsimp only at hSw); simp only [List.getElem_toArray, List.getElem_cons_succ, List.getElem_cons_zero]; all_goals go_simp; all_goals (try with_reducible rfl))); (try simp only [Act.put, List.getElem_toArray, List.getElem_cons_succ, List.getElem_cons_zero, List.setIfInBounds_toArray, List.set_cons_zero, List.set_cons_succ])
  refine wpAnyH_take (i := 18) (v := ?_) (by rfl) (by kernel_rfl) (by kernel_rfl) (by kernel_rfl) (fun _ _ _ h => h) (Or.inl ⟨by kernel_rfl, ?_⟩) (by assumption) ?_; rotate_left 1; (focus (intro w hSw; (try dsimp only at hSw); simp only [List.getElem_toArray, List.getElem_cons_succ, List.getElem_cons_zero]; all_goals go_simp; all_goals (try with_reducible rfl))); (try simp only [Act.put, List.getElem_toArray, List.getElem_cons_succ, List.getElem_cons_zero, List.setIfInBounds_toArray, List.set_cons_zero, List.set_cons_succ])
  refine wpAnyH_take (i := 19) (v := ?_) (by rfl) (by kernel_rfl) (by kernel_rfl) (by kernel_rfl) (fun _ _ _ h => h) (Or.inl ⟨by kernel_rfl, ?_⟩) (by assumption) ?_; rotate_left 1; (focus (intro w hSw; (try dsimp only at hSw); simp only [List.getElem_toArray, List.getElem_cons_succ, List.getElem_cons_zero]; all_goals go_simp; all_goals (try with_reducible rfl))); (try simp only [Act.put, List.getElem_toArray, List.getElem_cons_succ, List.getElem_cons_zero, List.setIfInBounds_toArray, List.set_cons_zero, List.set_cons_succ])
  refine wpAnyH_take (i := 20) (v := ?_) (by rfl) (by kernel_rfl) (by kernel_rfl) (by kernel_rfl) (fun _ _ _ h => h) (Or.inl ⟨by kernel_rfl, ?_⟩) (by assumption) ?_; rotate_left 1; (focus (intro w hSw; (try dsimp only at hSw); simp only [List.getElem_toArray, List.getElem_cons_succ, List.getElem_cons_zero]; all_goals go_simp; all_goals (try with_reducible rfl))); (try simp only [Act.put, List.getElem_toArray, List.getElem_cons_succ, List.getElem_cons_zero, List.setIfInBounds_toArray, List.set_cons_zero, List.set_cons_succ])
  refine wpAnyH_ready (rs := [21]) (by kernel_rfl) (by simp) ?_; refine AllReadyH.cons (by rfl) (fun K hK => ?_) AllReadyH.nil; rw [if_pos (by kernel_rfl)]; simp only [List.getElem_toArray, List.getElem_cons_succ, List.getElem_cons_zero]
  go_wp2_with (first
    | (go_at_call 24; (with_reducible refine (samekey_self 0 0 0 0 0 _).mono ?_); rintro e w19 ⟨rfl, hb⟩; have HB19 := Lib.hid (HB18.out.trans (hb.mono HB18.out.size)); clear hb))
  refine hK.out _ _ (HSS.out w19 (by first | exact HB18.out | exact HB19.out | exact HB20.out | exact HB21.out | exact HB22.out | exact HB23.out)) (fun hHeld => ?_); clear hK; (try simp only [Act.put, List.getElem_toArray, List.getElem_cons_succ, List.getElem_cons_zero, List.setIfInBounds_toArray, List.set_cons_zero, List.set_cons_succ])
  refine wpAnyH_take (i := 22) (v := ?_) (by rfl) (by kernel_rfl) (by kernel_rfl) (by kernel_rfl) (fun _ _ _ h => h) (Or.inl ⟨by kernel_rfl, ?_⟩) (by assumption) ?_; rotate_left 1; (focus (intro w hSw; (try dsimp only at hSw); simp only [List.getElem_toArray, List.getElem_cons_succ, List.getElem_cons_zero]; all_goals go_simp; all_goals (try with_reducible rfl))); (try simp only [Act.put, List.getElem_toArray, List.getElem_cons_succ, List.getElem_cons_zero, List.setIfInBounds_toArray, List.set_cons_zero, List.set_cons_succ])
  refine wpAnyH_take (i := 23) (v := ?_) (by rfl) (by kernel_rfl) (by kernel_rfl) (by kernel_rfl) (fun _ _ _ h => h) (Or.inl ⟨by kernel_rfl, ?_⟩) (by assumption) ?_; rotate_left 1; (focus (intro w hSw; (try dsimp only at hSw); simp only [List.getElem_toArray, List.getElem_cons_succ, List.getElem_cons_zero]; all_goals go_simp; all_goals (try with_reducible rfl))); (try simp only [Act.put, List.getElem_toArray, List.getElem_cons_succ, List.getElem_cons_zero, List.setIfInBounds_toArray, List.set_cons_zero, List.set_cons_succ])
  refine wpAnyH_take (i := 24) (v := ?_) (by rfl) (by kernel_rfl) (by kernel_rfl) (by kernel_rfl) (fun _ _ _ h => h) (Or.inl ⟨by kernel_rfl, ?_⟩) (by assumption) ?_; rotate_left 1; (focus (intro w hSw; (try dsimp only at hSw); simp only [List.getElem_toArray, List.getElem_cons_succ, List.getElem_cons_zero]; all_goals go_simp; all_goals (try with_reducible rfl))); (try simp only [Act.put, List.getElem_toArray, List.getElem_cons_succ, List.getElem_cons_zero, List.setIfInBounds_toArray, List.set_cons_zero, List.set_cons_succ])
  refine wpAnyH_take (i := 26) (v := ?_) (by rfl) (by kernel_rfl) (by kernel_rfl) (by kernel_rfl) (fun _ _ _ h => h) (Or.inl ⟨by kernel_rfl, ?_⟩) (by assumption) ?_; rotate_left 1; (focus (intro w hSw; (try dsimp only at hSw); simp only [List.getElem_toArray, List.getElem_cons_succ, List.getElem_cons_zero]; all_goals go_simp; all_goals (try with_reducible rfl))); (try simp only [Act.put, List.getElem_toArray, List.getElem_cons_succ, List.getElem_cons_zero, List.setIfInBounds_toArray, List.set_cons_zero, List.set_cons_succ])
  refine wpAnyH_ready (rs := [25]) (by kernel_rfl) (by simp) ?_; refine AllReadyH.cons (by rfl) (fun K hK => ?_) AllReadyH.nil; rw [if_pos (by kernel_rfl)]; simp only [List.getElem_toArray, List.getElem_cons_succ, List.getElem_cons_zero]
  go_wp2_with (first
    | (go_at_call 67; (with_reducible refine (dkey_of (P := P) 0 0 0 0 0 0 _ (fun W hb => dkeyof_dead 4 0 0 0 (Lib.hid z_castD) HDe W (HTd.out W (HB19.out.trans (hb.mono HB19.out.size))))).mono ?_); rintro e w20 ⟨rfl, hb⟩; have HB20 := Lib.hid (HB19.out.trans (hb.mono HB19.out.size)); clear hb))
  refine hK.out _ _ (HSS.out w20 (by first | exact HB18.out | exact HB19.out | exact HB20.out | exact HB21.out | exact HB22.out | exact HB23.out)) (fun hHeld => ?_); clear hK; (try simp only [Act.put, List.getElem_toArray, List.getElem_cons_succ, List.getElem_cons_zero, List.setIfInBounds_toArray, List.set_cons_zero, List.set_cons_succ])
  refine wpAnyH_ready (rs := [27]) (by kernel_rfl) (by simp) ?_; refine AllReadyH.cons (by rfl) (fun K hK => ?_) AllReadyH.nil; rw [if_pos (by kernel_rfl)]; simp only [List.getElem_toArray, List.getElem_cons_succ, List.getElem_cons_zero]
  go_wp2_with (first
    | (go_at_call 24; (with_reducible refine (samekey_self 0 0 0 0 0 _).mono ?_); rintro e w21 ⟨rfl, hb⟩; have HB21 := Lib.hid (HB20.out.trans (hb.mono HB20.out.size)); clear hb))
  refine hK.out _ _ (HSS.out w21 (by first | exact HB18.out | exact HB19.out | exact HB20.out | exact HB21.out | exact HB22.out | exact HB23.out)) (fun hHeld => ?_); clear hK; (try simp only [Act.put, List.getElem_toArray, List.getElem_cons_succ, List.getElem_cons_zero, List.setIfInBounds_toArray, List.set_cons_zero, List.set_cons_succ])
  refine wpAnyH_take (i := 28) (v := ?_) (by rfl) (by kernel_rfl) (by kernel_rfl) (by kernel_rfl) (fun _ _ _ h => h) (Or.inl ⟨by kernel_rfl, ?_⟩) (by assumption) ?_; rotate_left 1; (focus (intro w hSw; (try dsimp only at hSw); simp only [List.getElem_toArray, List.getElem_cons_succ, List.getElem_cons_zero]; all_goals go_simp; all_goals (try with_reducible rfl))); (try simp only [Act.put, List.getElem_toArray, List.getElem_cons_succ, List.getElem_cons_zero, List.setIfInBounds_toArray, List.set_cons_zero, List.set_cons_succ])
  refine wpAnyH_take (i := 29) (v := ?_) (by rfl) (by kernel_rfl) (by kernel_rfl) (by kernel_rfl) (fun _ _ _ h => h) (Or.inl ⟨by kernel_rfl, ?_⟩) (by assumption) ?_; rotate_left 1; (focus (intro w hSw; (try dsimp only at hSw); simp only [List.getElem_toArray, List.getElem_cons_succ, List.getElem_cons_zero]; all_goals go_simp; all_goals (try with_reducible rfl))); (try simp only [Act.put, List.getElem_toArray, List.getElem_cons_succ, List.getElem_cons_zero, List.setIfInBounds_toArray, List.set_cons_zero, List.set_cons_succ])
  refine wpAnyH_take (i := 30) (v := ?_) (by rfl) (by kernel_rfl) (by kernel_rfl) (by kernel_rfl) (fun _ _ _ h => h) (Or.inl ⟨by kernel_rfl, ?_⟩) (by assumption) ?_; rotate_left 1; (focus (intro w hSw; (try dsimp only at hSw); simp only [List.getElem_toArray, List.getElem_cons_succ, List.getElem_cons_zero]; all_goals go_simp; all_goals (try with_reducible rfl))); (try simp only [Act.put, List.getElem_toArray, List.getElem_cons_succ, List.getElem_cons_zero, List.setIfInBounds_toArray, List.set_cons_zero, List.set_cons_succ])
  refine wpAnyH_take (i := 32) (v := ?_) (by rfl) (by kernel_rfl) (by kernel_rfl) (by kernel_rfl) (fun _ _ _ h => h) (Or.inl ⟨by kernel_rfl, ?_⟩) (by assumption) ?_; rotate_left 1; (focus (intro w hSw; (try dsimp only at hSw); simp only [List.getElem_toArray, List.getElem_cons_succ, List.getElem_cons_zero]; all_goals go_simp; all_goals (try with_reducible rfl))); (try simp only [Act.put, List.getElem_toArray, List.getElem_cons_succ, List.getElem_cons_zero, List.setIfInBounds_toArray, List.set_cons_zero, List.set_cons_succ])
  refine wpAnyH_ready (rs := [31]) (by kernel_rfl) (by simp) ?_; refine AllReadyH.cons (by rfl) (fun K hK => ?_) AllReadyH.nil; rw [if_pos (by kernel_rfl)]; simp only [List.getElem_toArray, List.getElem_cons_succ, List.getElem_cons_zero]
  go_wp2_with (first
    | (go_at_call 70; (with_reducible refine (dresume_dead 0 0 (Lib.hid z_castD) HDe _ (HTd.out _ HB21.out)).mono ?_); rintro e w22 ⟨rfl, hb⟩; have HB22 := Lib.hid (HB21.out.trans (hb.mono HB21.out.size)); clear hb))
  refine hK.out _ _ (HSS.out w22 (by first | exact HB18.out | exact HB19.out | exact HB20.out | exact HB21.out | exact HB22.out | exact HB23.out)) (fun hHeld => ?_); clear hK; (try simp only [Act.put, List.getElem_toArray, List.getElem_cons_succ, List.getElem_cons_zero, List.setIfInBounds_toArray, List.set_cons_zero, List.set_cons_succ])
  refine wpAnyH_ready (rs := [33]) (by kernel_rfl) (by simp) ?_; refine AllReadyH.cons (by rfl) (fun K hK => ?_) AllReadyH.nil; rw [if_pos (by kernel_rfl)]; simp only [List.getElem_toArray, List.getElem_cons_succ, List.getElem_cons_zero]
  go_wp2_with (first
    | (go_at_call 24; (with_reducible refine (samekey_self 0 0 0 0 0 _).mono ?_); rintro e w23 ⟨rfl, hb⟩; have HB23 := Lib.hid (HB22.out.trans (hb.mono HB22.out.size)); clear hb))
  refine hK.out _ _ (HSS.out w23 (by first | exact HB18.out | exact HB19.out | exact HB20.out | exact HB21.out | exact HB22.out | exact HB23.out)) (fun hHeld => ?_); clear hK; (try simp only [Act.put, List.getElem_toArray, List.getElem_cons_succ, List.getElem_cons_zero, List.setIfInBounds_toArray, List.set_cons_zero, List.set_cons_succ])
  refine wpAnyH_take (i := 34) (v := ?_) (by rfl) (by kernel_rfl) (by kernel_rfl) (by kernel_rfl) (fun _ _ _ h => h) (Or.inl ⟨by kernel_rfl, ?_⟩) (by assumption) ?_; rotate_left 1; (focus (intro w hSw; (try dsimp only at hSw); simp only [List.getElem_toArray, List.getElem_cons_succ, List.getElem_cons_zero]; all_goals go_simp; all_goals (try with_reducible rfl))); (try simp only [Act.put, List.getElem_toArray, List.getElem_cons_succ, List.getElem_cons_zero, List.setIfInBounds_toArray, List.set_cons_zero, List.set_cons_succ])
  refine wpAnyH_take (i := 35) (v := ?_) (by rfl) (by kernel_rfl) (by kernel_rfl) (by kernel_rfl) (fun _ _ _ h => h) (Or.inl ⟨by kernel_rfl, ?_⟩) (by assumption) ?_; rotate_left 1; (focus (intro w hSw; (try dsimp only at hSw); simp only [List.getElem_toArray, List.getElem_cons_succ, List.getElem_cons_zero]; all_goals go_simp; all_goals (try with_reducible rfl))); (try simp only [Act.put, List.getElem_toArray, List.getElem_cons_succ, List.getElem_cons_zero, List.setIfInBounds_toArray, List.set_cons_zero, List.set_cons_succ])
  refine wpAnyH_take (i := 36) (v := ?_) (by rfl) (by kernel_rfl) (by kernel_rfl) (by kernel_rfl) (fun _ _ _ h => h) (Or.inl ⟨by kernel_rfl, ?_⟩) (by assumption) ?_; rotate_left 1; (focus (intro w hSw; (try dsimp only at hSw); simp only [List.getElem_toArray, List.getElem_cons_succ, List.getElem_cons_zero]; all_goals go_simp; all_goals (try with_reducible rfl))); (try simp only [Act.put, List.getElem_toArray, List.getElem_cons_succ, List.getElem_cons_zero, List.setIfInBounds_toArray, List.set_cons_zero, List.set_cons_succ])
  refine wpAnyH_take (i := 37) (v := ?_) (by rfl) (by kernel_rfl) (by kernel_rfl) (by kernel_rfl) (fun _ _ _ h => h) (Or.inl ⟨by kernel_rfl, ?_⟩) (by assumption) ?_; rotate_left 1; (focus (intro w hSw; (try dsimp only at hSw); simp only [List.getElem_toArray, List.getElem_cons_succ, List.getElem_cons_zero]; all_goals go_simp; all_goals (try with_reducible rfl))); (try simp only [Act.put, List.getElem_toArray, List.getElem_cons_succ, List.getElem_cons_zero, List.setIfInBounds_toArray, List.set_cons_zero, List.set_cons_succ])
  refine wpAnyH_take (i := 38) (v := ?_) (by rfl) (by kernel_rfl) (by kernel_rfl) (by kernel_rfl) (fun _ _ _ h => h) (Or.inl ⟨by kernel_rfl, ?_⟩) (by assumption) ?_; rotate_left 1; (focus (intro w hSw; (try dsimp only at hSw); simp only [List.getElem_toArray, List.getElem_cons_succ, List.getElem_cons_zero]; all_goals go_simp; all_goals (try with_reducible rfl))); (try simp only [Act.put, List.getElem_toArray, List.getElem_cons_succ, List.getElem_cons_zero, List.setIfInBounds_toArray, List.set_cons_zero, List.set_cons_succ])
  refine wpAnyH_take (i := 39) (v := ?_) (by rfl) (by kernel_rfl) (by kernel_rfl) (by kernel_rfl) (fun _ _ _ h => h) (Or.inl ⟨by kernel_rfl, ?_⟩) (by assumption) ?_; rotate_left 1; (focus (intro w hSw; (try dsimp only at hSw); simp only [List.getElem_toArray, List.getElem_cons_succ, List.getElem_cons_zero]; all_goals go_simp; all_goals (try with_reducible rfl))); (try simp only [Act.put, List.getElem_toArray, List.getElem_cons_succ, List.getElem_cons_zero, List.setIfInBounds_toArray, List.set_cons_zero, List.set_cons_succ])
  refine wpAnyH_ready (rs := [40]) (by kernel_rfl) (by simp) ?_; refine AllReadyH.cons (by rfl) (fun K hK => ?_) AllReadyH.nil; rw [if_pos (by kernel_rfl)]; simp only [List.getElem_toArray, List.getElem_cons_succ, List.getElem_cons_zero]
  go_wp2_with (first
    | (go_at_call 72; (with_reducible refine (aver_x 0 0 (Lib.hid z_castD) (by decide) 1 HVe _ (HTd.out _ HB23.out).pl.ar).mono ?_); rintro e w24 ⟨rfl, rfl⟩))
  refine hK.out _ _ (HSS.out _ HB23.out) (fun hHeld => ?_)
  clear hK K
  (try simp only [Act.put, List.getElem_toArray, List.getElem_cons_succ, List.getElem_cons_zero, List.setIfInBounds_toArray, List.set_cons_zero, List.set_cons_succ])
  refine wpAnyH_take (i := 41) (v := ?_) (by rfl) (by kernel_rfl) (by kernel_rfl) (by kernel_rfl) (fun _ _ _ h => h) (Or.inl ⟨by kernel_rfl, ?_⟩) (by assumption) ?_; rotate_left 1; (focus (intro w hSw; (try dsimp only at hSw); simp only [List.getElem_toArray, List.getElem_cons_succ, List.getElem_cons_zero]; all_goals go_simp; all_goals (try with_reducible rfl))); (try simp only [Act.put, List.getElem_toArray, List.getElem_cons_succ, List.getElem_cons_zero, List.setIfInBounds_toArray, List.set_cons_zero, List.set_cons_succ])
  refine wpAnyH_take (i := 42) (v := ?_) (by rfl) (by kernel_rfl) (by kernel_rfl) (by kernel_rfl) (fun _ _ _ h => h) (Or.inl ⟨by kernel_rfl, ?_⟩) (by assumption) ?_; rotate_left 1; (focus (intro w hSw; (try dsimp only at hSw); simp only [List.getElem_toArray, List.getElem_cons_succ, List.getElem_cons_zero]; all_goals go_simp; all_goals (try with_reducible rfl))); (try simp only [Act.put, List.getElem_toArray, List.getElem_cons_succ, List.getElem_cons_zero, List.setIfInBounds_toArray, List.set_cons_zero, List.set_cons_succ])
  refine wpAnyH_take (i := 43) (v := ?_) (by rfl) (by kernel_rfl) (by kernel_rfl) (by kernel_rfl) (fun _ _ _ h => h) (Or.inl ⟨by kernel_rfl, ?_⟩) (by assumption) ?_; rotate_left 1; (focus (intro w hSw; (try dsimp only at hSw); simp only [List.getElem_toArray, List.getElem_cons_succ, List.getElem_cons_zero]; all_goals go_simp; all_goals (try with_reducible rfl))); (try simp only [Act.put, List.getElem_toArray, List.getElem_cons_succ, List.getElem_cons_zero, List.setIfInBounds_toArray, List.set_cons_zero, List.set_cons_succ])
  refine wpAnyH_done (by kernel_rfl) ?_ _
  refine NoPanic.normal ?_
  go_wp2_with fail
  go_ret
  exact ⟨rfl, HB17.out.trans (HB23.out.mono HB17.out.size)⟩

set_option maxRecDepth 100000 in
set_option maxHeartbeats 8000000 in
theorem dres_no (a0 a1 : Int) (R M : Nat) (s wt : Int) (hs : Hid ((R : Int) + 1 = s)) (hR : R < 4) (hR1 : R ≠ 1) (hM : M < 1000) (CR : Hid (∀ w, Calls Tryd.prog 71 #[.int .i64 a0, .int .i64 4] w fun e w' => e = .returned (.int .i64 (R : Int)) ∧ w = w')) (CM : Hid (∀ w, Calls Tryd.prog 71 #[.int .i64 a1, .int .i64 1000] w fun e w' => e = .returned (.int .i64 wt) ∧ w = w')) (hwt : Hid (wt = (M : Int))) (w : World) (vs vr : Value) (hE : ErrsAt vs vr w) :
    Calls Tryd.prog 7 #[.int .i64 a0, .int .i64 a1] w fun e w' => e = .returned (.bool true) ∧ Below w.heap.size w w' := by
  have HE := Lib.hid hE
  have u1 : 0 ≤ wt := by have := hwt.out; omega
  have u2 : wt ≤ 536870911 := by have := hwt.out; omega
  have hw : IntKind.u32.wrap wt = wt := by rw [IntKind.wrap_u32]; omega
  have s1 : 1 ≤ s := by have := hs.out; omega
  have s2 : s ≤ 4 := by have := hs.out; omega
  have hn1 : (R : Int) + 1 = s := hs.out
  have e2 : (s == 2) = false := by rw [beq_eq_false_iff_ne]; omega
  clear hE hM
  go_enter Tryd.func7, Tryd.ntmps7
  go_upto_region 11 with (first
    | (go_at_call 50; (with_reducible refine (dfirst_is _).mono ?_); rintro e w1 ⟨rfl, hb1⟩; have HB1 := Lib.hid hb1; clear hb1)
    | (go_at_call 71; (with_reducible refine (CR.out _).mono ?_); rintro e w2 ⟨rfl, rfl⟩)
    | (go_at_call 71; (with_reducible refine (CM.out _).mono ?_); rintro e w2 ⟨rfl, rfl⟩)
    | (go_at_call 51; (with_reducible refine (dnew_ok 2 2 (Lib.hid rfl) (by decide) (by decide) _).mono ?_); rintro e wN ⟨P, p, B, G, Q, rfl, hD, hb⟩; have HD := Lib.hid hD; have HB := Lib.hid (HB1.out.trans (hb.mono HB1.out.size)); have HLo : Hid (w.heap.size ≤ B ∧ w.heap.size ≤ G) := Lib.hid ⟨Nat.le_trans HB1.out.size hD.pl.ar.lt.1, Nat.le_trans HB1.out.size hD.pl.gl.1⟩; clear hD hb)
    | (go_at_call 55; (with_reducible refine (dmake_ok 0 (by decide) (Lib.hid (by decide)) (Lib.hid (by intro i hi; omega)) 0 (Lib.hid rfl) _ HD.out).mono ?_); rintro e w2 ⟨rfl, hD, hb⟩; have HD2 := Lib.hid hD; have HB2 := Lib.hid (HB.out.trans (hb.below HLo.out.1 HLo.out.2 HB.out.size)); clear hD hb)
    | (go_at_call 65; (with_reducible refine (dget_ok 0 0 (Lib.hid z_castD) (by decide) (Lib.hid (by decide)) zd1 (Lib.hid (fun j hj => updS_D1 _ 0 j hj)) (Lib.hid (fun j _ => zd1_one j)) _ HD2.out).mono ?_); rintro e w3 ⟨rfl, hb⟩; have HB3 := Lib.hid (HB2.out.trans (hb.mono HB2.out.size)); have HD3 := Lib.hid (HD2.out.below hb); clear hb)
    | (refine wpList_store_mid (by rfl) _ _ _ (by rfl) w3.heap.size 0 (rowL zd1).toArray (by rfl) (by rfl) (by rw [rowL_size]; exact dthere_new _ _ 107 (by rfl) _) (by rw [rowL_size]; exact infoDomS) (rowL_one zd1 (fun j _ => zd1_one j)) ?_))
  generalize hA : World.setCells _ w3.heap.size 0 _ = w5
  obtain ⟨xb, hxb⟩ : ∃ xb, xb = w3.heap.size := ⟨_, rfl⟩
  have HA : Hid (Below w3.heap.size w3 w5 ∧ w5.rangeAt xb 0 (rowL (fX 1 0)) ∧ xb < w5.heap.size ∧ (∀ j, w5.frozen? ⟨xb, j, none⟩ = false) ∧ w3.heap.size ≤ xb) := Lib.hid (by
    rw [← hA, hxb, fX_zd1]
    exact ⟨dbelow_cells ((Below.refl _ _).alloc (Nat.le_refl _) _) (Nat.le_refl _) _ _, World.rangeAt_setCells_same _ _ 0 (rowL zd1) (by rw [rowL_len]; exact dthere_new _ _ 107 (by rfl) _), by rw [dsize_cells]; simp, fun j => by rw [World.frozen?_setCells]; simp, Nat.le_refl _⟩)
  rw [← hxb]
  clear hA hxb
  have c9 := range_at HA.out.2.1 9 (by decide)
  have c106 := range_at HA.out.2.1 106 (by decide)
  have z9 := HA.out.2.2.2.1 9
  have z106 := HA.out.2.2.2.1 106
  have HD5 := Lib.hid (HD3.out.below HA.out.1)
  go_upto_region 13 with fail
  generalize hA : World.setCell (World.setCell w5 _ _) _ _ = w6
  have HA6 : Hid (w6.rangeAt xb 0 (rowL (fX s wt)) ∧ Below w3.heap.size w3 w6) := Lib.hid (by rw [← hA]; exact ⟨range_put HA.out.2.1, (HA.out.1.setCell HA.out.2.2.2.2 _).setCell HA.out.2.2.2.2 _⟩)
  clear hA c9 c106 z9 z106
  have HD6 := Lib.hid (HD3.out.below HA6.out.2)
  have HB6 := Lib.hid (HB3.out.trans (HA6.out.2.mono HB3.out.size))
  have HE6 := Lib.hid (HE.out.below HB6.out)
  obtain ⟨W7, HW7⟩ : ∃ W7 : Nat → Nat → Value, Hid (W7 = updS (updS (fun _ b => zd b) 0 0 zsD1) 0 0 (rowL (fX s wt))) := ⟨_, Lib.hid rfl⟩
  have HS7 : Hid (W7 0 9 = .int .i64 s ∧ W7 0 106 = .int .i64 wt) := Lib.hid (by rw [HW7.out, updS_row _ 0 9 _ (by decide), updS_row _ 0 106 _ (by decide)]; exact ⟨rfl, rfl⟩)
  obtain ⟨th7, HT7⟩ : ∃ th7 : Nat → Bool, Hid (th7 = upd (fun _ => false) 0 true) := ⟨_, Lib.hid rfl⟩
  have HT0 : Hid (th7 0 = true) := Lib.hid (by rw [HT7.out]; rfl)
  go_upto_region 15 with (first
    | (refine wpList_load_mid (by rfl) _ _ (by rfl) xb 0 (by rfl) (rowL (fX s wt)) _ HA6.out.1 Tryd.underlying114 rfl (by rw [rowL_len]; exact infoDomS) ?_)
    | (go_at_call 58; (with_reducible refine (dput_ok 0 0 (Lib.hid z_castD) (by decide) (Lib.hid (by decide)) (fX s wt) (fun _ _ => 0) (Lib.hid (fun j _ => fX_one _ _ j)) (Lib.hid (fX_keys _ _)) (Lib.hid zero_right) s 0 wt (Lib.hid ⟨rfl, rfl, rfl⟩) s1 s2 (by decide) (by decide) u1 u2 vs vr _ HE6.out HD6.out).mono ?_); rintro e w7 ⟨rfl, hD, hb⟩; rw [← HW7.out, ← HT7.out] at hD; have HD7 := Lib.hid hD; have HB7 := Lib.hid (HB6.out.trans (hb.below HLo.out.1 HLo.out.2 HB6.out.size)); clear hD hb))
  have HR7 := Lib.hid (dresume_no (n := 2) 0 0 (Lib.hid z_castD) (by decide) HT0 s (Lib.hid HS7.out.1) (by have := hs.out; omega) w7 HD7.out)
  go_upto_region 16 with (first
    | (go_at_call 70; (with_reducible refine HR7.out.mono ?_); rintro e w8 ⟨rfl, hb⟩; have HD8 := Lib.hid (HD7.out.below hb); have HB8 := Lib.hid (HB7.out.trans (hb.mono HB7.out.size)); clear hb))
  generalize ha : World.alloc w8 _ = w9; obtain ⟨ba, hba⟩ : ∃ ba, ba = w8.heap.size := ⟨_, rfl⟩; have HBa : Hid (Below w8.heap.size w8 w9) := Lib.hid (by rw [← ha]; exact (Below.refl _ _).alloc (Nat.le_refl _) _); have HKa : Hid (KeyC w9 ba 0 0 0 0 0) := Lib.hid (by rw [← ha, hba]; exact KeyC.new w8 0 0 0 0 0 _); have HLa : Hid (w8.heap.size ≤ ba) := Lib.hid (by rw [hba]; exact Nat.le_refl _); rw [← hba]; clear ha hba
  have HD9 := Lib.hid (HD8.out.below HBa.out)
  have HB9 := Lib.hid (HB8.out.trans (HBa.out.mono HB8.out.size))
  go_upto_region 17 with (first
    | (go_at_call 68; (with_reducible refine (ddoor_of (P := P) 0 wt 5 0 0 0 wt _ (fun W hb => dkeyof_in 5 0 wt 0 (Lib.hid z_castD) (by decide) HT0 u2 0 (Lib.hid rfl) W (HD9.out.below hb))).mono ?_); rintro e w10 ⟨rfl, hb⟩; have HD10 := Lib.hid (HD9.out.below hb); have HB10 := Lib.hid (HB9.out.trans (hb.mono HB9.out.size)); have HS10 := Lib.hid hb.size; have HKa1 := Lib.hid (HKa.out.below hb); clear hb))
  generalize hb : World.alloc w10 _ = w11; obtain ⟨bb, hbb⟩ : ∃ bb, bb = w10.heap.size := ⟨_, rfl⟩; have HBb : Hid (Below w10.heap.size w10 w11) := Lib.hid (by rw [← hb]; exact (Below.refl _ _).alloc (Nat.le_refl _) _); have HKb : Hid (KeyC w11 bb 5 0 0 0 wt) := Lib.hid (by rw [← hb, hbb]; exact KeyC.new w10 5 0 0 0 wt _); have HLb : Hid (w10.heap.size ≤ bb) := Lib.hid (by rw [hbb]; exact Nat.le_refl _); rw [← hbb]; clear hb hbb
  have HD11 := Lib.hid (HD10.out.below HBb.out)
  have HB11 := Lib.hid (HB10.out.trans (HBb.out.mono HB10.out.size))
  have HKa2 := Lib.hid (HKa1.out.below HBb.out)
  go_upto_region 18 with (first
    | (go_at_call 68; (with_reducible refine (ddoor_of (P := P) 0 536870912 0 0 0 0 0 _ (fun W hb => dkeyof_big 5 0 536870912 0 (Lib.hid z_castD) (by decide) HT0 (by decide) W (HD11.out.below hb))).mono ?_); rintro e w12 ⟨rfl, hb⟩; have HD12 := Lib.hid (HD11.out.below hb); have HB12 := Lib.hid (HB11.out.trans (hb.mono HB11.out.size)); have HS12 := Lib.hid hb.size; have HKa3 := Lib.hid (HKa2.out.below hb); have HKb3 := Lib.hid (HKb.out.below hb); clear hb))
  generalize hc : World.alloc w12 _ = w13; obtain ⟨bc, hbc⟩ : ∃ bc, bc = w12.heap.size := ⟨_, rfl⟩; have HBc : Hid (Below w12.heap.size w12 w13) := Lib.hid (by rw [← hc]; exact (Below.refl _ _).alloc (Nat.le_refl _) _); have HKc : Hid (KeyC w13 bc 0 0 0 0 0) := Lib.hid (by rw [← hc, hbc]; exact KeyC.new w12 0 0 0 0 0 _); have HLc : Hid (w12.heap.size ≤ bc) := Lib.hid (by rw [hbc]; exact Nat.le_refl _); rw [← hbc]; clear hc hbc
  have HD13 := Lib.hid (HD12.out.below HBc.out)
  have HB13 := Lib.hid (HB12.out.trans (HBc.out.mono HB12.out.size))
  have HKa4 := Lib.hid (HKa3.out.below HBc.out)
  have HKb4 := Lib.hid (HKb3.out.below HBc.out)
  have HGl : Hid (B < w8.heap.size ∧ G < w8.heap.size) := Lib.hid ⟨HD8.out.pl.ar.lt.2, HD8.out.pl.gl.2⟩
  have HSz : Hid (w8.heap.size ≤ w9.heap.size ∧ w9.heap.size ≤ w10.heap.size ∧ w10.heap.size ≤ w11.heap.size ∧ w11.heap.size ≤ w12.heap.size) := Lib.hid ⟨HBa.out.size, HS10.out, HBb.out.size, HS12.out⟩
  go_upto_region 20 with (first
    | (go_at_call 63; (with_reducible refine (dend_x 0 0 (Lib.hid z_castD) (by decide) HT0 0 (Lib.hid rfl) (by decide) (by decide) _ HD13.out).mono ?_); rintro e w14 ⟨rfl, hD, hb⟩; have HD14 := Lib.hid hD; have HB14 := Lib.hid (HB13.out.trans (hb.below HLo.out.1 HLo.out.2 HB13.out.size)); have HKa5 := Lib.hid (HKa4.out.pbl hb (by have := HGl.out; have := HLa.out; omega) (by have := HGl.out; have := HLa.out; omega)); have HKb5 := Lib.hid (HKb4.out.pbl hb (by have := HGl.out; have := HLb.out; have := HSz.out; omega) (by have := HGl.out; have := HLb.out; have := HSz.out; omega)); have HKc5 := Lib.hid (HKc.out.pbl hb (by have := HGl.out; have := HLc.out; have := HSz.out; omega) (by have := HGl.out; have := HLc.out; have := HSz.out; omega)); clear hD hb))
  go_upto_region 21 with fail
  generalize hd : World.alloc w14 _ = w15; obtain ⟨bd, hbd⟩ : ∃ bd, bd = w14.heap.size := ⟨_, rfl⟩; have HBd : Hid (Below w14.heap.size w14 w15) := Lib.hid (by rw [← hd]; exact (Below.refl _ _).alloc (Nat.le_refl _) _); have HKd : Hid (KeyC w15 bd 0 0 0 0 0) := Lib.hid (by rw [← hd, hbd]; exact KeyC.new w14 0 0 0 0 0 _); have HLd : Hid (w14.heap.size ≤ bd) := Lib.hid (by rw [hbd]; exact Nat.le_refl _); rw [← hbd]; clear hd hbd
  have HD15 := Lib.hid (HD14.out.below HBd.out)
  have HB15 := Lib.hid (HB14.out.trans (HBd.out.mono HB14.out.size))
  have HKa6 := Lib.hid (HKa5.out.below HBd.out)
  have HKb6 := Lib.hid (HKb5.out.below HBd.out)
  have HKc6 := Lib.hid (HKc5.out.below HBd.out)
  have q0 := HKd.out.c0
  have q1 := HKd.out.c1
  have q2 := HKd.out.c2
  have q3 := HKd.out.c3
  have q4 := HKd.out.c4
  go_upto_region 23 with fail
  generalize he : World.alloc w15 _ = w16; obtain ⟨be, hbe⟩ : ∃ be, be = w15.heap.size := ⟨_, rfl⟩; have HBe : Hid (Below w15.heap.size w15 w16) := Lib.hid (by rw [← he]; exact (Below.refl _ _).alloc (Nat.le_refl _) _); have HKe : Hid (KeyC w16 be 0 0 0 0 0) := Lib.hid (by rw [← he, hbe]; exact KeyC.new w15 0 0 0 0 0 _); have HLe : Hid (w15.heap.size ≤ be) := Lib.hid (by rw [hbe]; exact Nat.le_refl _); rw [← hbe]; clear he hbe
  clear q0 q1 q2 q3 q4
  have HD16 := Lib.hid (HD15.out.below HBe.out)
  have HB16 := Lib.hid (HB15.out.trans (HBe.out.mono HB15.out.size))
  have HKa7 := Lib.hid (HKa6.out.below HBe.out)
  have HKb7 := Lib.hid (HKb6.out.below HBe.out)
  have HKc7 := Lib.hid (HKc6.out.below HBe.out)
  have HKd7 := Lib.hid (HKd.out.below HBe.out)
  go_upto_region 25 with fail
  have HB17 := HB16
  have HD17 := HD16
  have HKa8 := HKa7
  have HKb8 := HKb7
  have HKc8 := HKc7
  have HKd8 := HKd7
  have HKe8 := HKe
  obtain ⟨wD, hwD⟩ : ∃ wD, wD = w16.drew := ⟨_, rfl⟩
  have HBD : Hid (Below w16.heap.size w16 wD) := Lib.hid (by rw [hwD]; exact (Below.refl _ _).drew)
  have HSS : Hid (∀ W, Below w16.heap.size w16 W → (World.cell? W ⟨P, 0, none⟩ = some (.pointer (some ⟨p, 0, none⟩)) ∧ (World.cell? W ⟨ba, 0, none⟩ = some (.int .i64 0) ∧ World.cell? W ⟨ba, 1, none⟩ = some (.int .i64 0) ∧ World.cell? W ⟨ba, 2, none⟩ = some (.int .i64 0) ∧ World.cell? W ⟨ba, 3, none⟩ = some (.int .i64 0) ∧ World.cell? W ⟨ba, 4, none⟩ = some (.int .u32 0)) ∧ (World.cell? W ⟨bb, 0, none⟩ = some (.int .i64 5) ∧ World.cell? W ⟨bb, 1, none⟩ = some (.int .i64 0) ∧ World.cell? W ⟨bb, 2, none⟩ = some (.int .i64 0) ∧ World.cell? W ⟨bb, 3, none⟩ = some (.int .i64 0) ∧ World.cell? W ⟨bb, 4, none⟩ = some (.int .u32 wt)) ∧ (World.cell? W ⟨bc, 0, none⟩ = some (.int .i64 0) ∧ World.cell? W ⟨bc, 1, none⟩ = some (.int .i64 0) ∧ World.cell? W ⟨bc, 2, none⟩ = some (.int .i64 0) ∧ World.cell? W ⟨bc, 3, none⟩ = some (.int .i64 0) ∧ World.cell? W ⟨bc, 4, none⟩ = some (.int .u32 0)) ∧ (World.cell? W ⟨bd, 0, none⟩ = some (.int .i64 0) ∧ World.cell? W ⟨bd, 1, none⟩ = some (.int .i64 0) ∧ World.cell? W ⟨bd, 2, none⟩ = some (.int .i64 0) ∧ World.cell? W ⟨bd, 3, none⟩ = some (.int .i64 0) ∧ World.cell? W ⟨bd, 4, none⟩ = some (.int .u32 0)) ∧ (World.cell? W ⟨be, 0, none⟩ = some (.int .i64 0) ∧ World.cell? W ⟨be, 1, none⟩ = some (.int .i64 0) ∧ World.cell? W ⟨be, 2, none⟩ = some (.int .i64 0) ∧ World.cell? W ⟨be, 3, none⟩ = some (.int .i64 0) ∧ World.cell? W ⟨be, 4, none⟩ = some (.int .u32 0)))) := Lib.hid (fun W hb => ⟨(HD17.out.below hb).pl.f0, (HKa8.out.below hb).five, (HKb8.out.below hb).five, (HKc8.out.below hb).five, (HKd8.out.below hb).five, (HKe8.out.below hb).five⟩)
  have HTd : Hid (∀ W, Below w16.heap.size w16 W → DsAt W w1.heap.size P p B G Q 2 2 (upd th7 0 false) (upd (fun _ => 0) 0 (0 + 1)) W7) := Lib.hid (fun W hb => HD17.out.below hb)
  have HDe : Hid (upd th7 0 false 0 = false) := Lib.hid (upd_at _ _ _)
  have HVe : Hid (upd (fun _ => (0 : Int)) 0 (0 + 1) 0 = 1) := Lib.hid (by simp [upd])
  refine wp_region_noPanic ?_
  refine wp_region_held_drew (S := fun w' => (World.cell? w' ⟨P, 0, none⟩ = some (.pointer (some ⟨p, 0, none⟩)) ∧ (World.cell? w' ⟨ba, 0, none⟩ = some (.int .i64 0) ∧ World.cell? w' ⟨ba, 1, none⟩ = some (.int .i64 0) ∧ World.cell? w' ⟨ba, 2, none⟩ = some (.int .i64 0) ∧ World.cell? w' ⟨ba, 3, none⟩ = some (.int .i64 0) ∧ World.cell? w' ⟨ba, 4, none⟩ = some (.int .u32 0)) ∧ (World.cell? w' ⟨bb, 0, none⟩ = some (.int .i64 5) ∧ World.cell? w' ⟨bb, 1, none⟩ = some (.int .i64 0) ∧ World.cell? w' ⟨bb, 2, none⟩ = some (.int .i64 0) ∧ World.cell? w' ⟨bb, 3, none⟩ = some (.int .i64 0) ∧ World.cell? w' ⟨bb, 4, none⟩ = some (.int .u32 wt)) ∧ (World.cell? w' ⟨bc, 0, none⟩ = some (.int .i64 0) ∧ World.cell? w' ⟨bc, 1, none⟩ = some (.int .i64 0) ∧ World.cell? w' ⟨bc, 2, none⟩ = some (.int .i64 0) ∧ World.cell? w' ⟨bc, 3, none⟩ = some (.int .i64 0) ∧ World.cell? w' ⟨bc, 4, none⟩ = some (.int .u32 0)) ∧ (World.cell? w' ⟨bd, 0, none⟩ = some (.int .i64 0) ∧ World.cell? w' ⟨bd, 1, none⟩ = some (.int .i64 0) ∧ World.cell? w' ⟨bd, 2, none⟩ = some (.int .i64 0) ∧ World.cell? w' ⟨bd, 3, none⟩ = some (.int .i64 0) ∧ World.cell? w' ⟨bd, 4, none⟩ = some (.int .u32 0)) ∧ (World.cell? w' ⟨be, 0, none⟩ = some (.int .i64 0) ∧ World.cell? w' ⟨be, 1, none⟩ = some (.int .i64 0) ∧ World.cell? w' ⟨be, 2, none⟩ = some (.int .i64 0) ∧ World.cell? w' ⟨be, 3, none⟩ = some (.int .i64 0) ∧ World.cell? w' ⟨be, 4, none⟩ = some (.int .u32 0)))) (by kernel_rfl) (by rw [← hwD]; exact HSS.out _ HBD.out) (fun hHeld => ?_)
  rw [← hwD] at hHeld ⊢
  clear hwD
  refine wpAnyH_take (i := 0) (v := ?_) (by rfl) (by kernel_rfl) (by kernel_rfl) (by kernel_rfl) (fun _ _ _ h => h) (Or.inl ⟨by kernel_rfl, ?_⟩) (by assumption) ?_; rotate_left 1; (focus (intro w hSw; (try dsimp only at hSw); simp only [List.getElem_toArray, List.getElem_cons_succ, List.getElem_cons_zero]; all_goals go_simp; all_goals (try with_reducible rfl))); (try simp only [Act.put, List.getElem_toArray, List.getElem_cons_succ, List.getElem_cons_zero, List.setIfInBounds_toArray, List.set_cons_zero, List.set_cons_succ])
  refine wpAnyH_take (i := 1) (v := ?_) (by rfl) (by kernel_rfl) (by kernel_rfl) (by kernel_rfl) (fun _ _ _ h => h) (Or.inl ⟨by kernel_rfl, ?_⟩) (by assumption) ?_; rotate_left 1; (focus (intro w hSw; (try dsimp only at hSw); simp only [List.getElem_toArray, List.getElem_cons_succ, List.getElem_cons_zero]; all_goals go_simp; all_goals (try with_reducible rfl))); (try simp only [Act.put, List.getElem_toArray, List.getElem_cons_succ, List.getElem_cons_zero, List.setIfInBounds_toArray, List.set_cons_zero, List.set_cons_succ])
  refine wpAnyH_take (i := 2) (v := ?_) (by rfl) (by kernel_rfl) (by kernel_rfl) (by kernel_rfl) (fun _ _ _ h => h) (Or.inl ⟨by kernel_rfl, ?_⟩) (by assumption) ?_; rotate_left 1; (focus (intro w hSw; (try dsimp only at hSw); simp only [List.getElem_toArray, List.getElem_cons_succ, List.getElem_cons_zero]; all_goals go_simp; all_goals (try with_reducible rfl))); (try simp only [Act.put, List.getElem_toArray, List.getElem_cons_succ, List.getElem_cons_zero, List.setIfInBounds_toArray, List.set_cons_zero, List.set_cons_succ])
  refine wpAnyH_take (i := 3) (v := ?_) (by rfl) (by kernel_rfl) (by kernel_rfl) (by kernel_rfl) (fun _ _ _ h => h) (Or.inl ⟨by kernel_rfl, ?_⟩) (by assumption) ?_; rotate_left 1; (focus (intro w hSw; (try dsimp only at hSw); simp only [List.getElem_toArray, List.getElem_cons_succ, List.getElem_cons_zero]; all_goals go_simp; all_goals (try with_reducible rfl))); (try simp only [Act.put, List.getElem_toArray, List.getElem_cons_succ, List.getElem_cons_zero, List.setIfInBounds_toArray, List.set_cons_zero, List.set_cons_succ])
  refine wpAnyH_ready (rs := [4]) (by kernel_rfl) (by simp) ?_; refine AllReadyH.cons (by rfl) (fun K hK => ?_) AllReadyH.nil; rw [if_pos (by kernel_rfl)]; simp only [List.getElem_toArray, List.getElem_cons_succ, List.getElem_cons_zero]
  go_wp2_with (first
    | (go_at_call 24; (with_reducible refine (samekey_self 0 0 0 0 0 _).mono ?_); rintro e w18 ⟨rfl, hb⟩; have HB18 := Lib.hid (HBD.out.trans (hb.mono HBD.out.size)); clear hb))
  refine hK.out _ _ (HSS.out w18 (by first | exact HB18.out | exact HB19.out | exact HB20.out | exact HB21.out | exact HB22.out | exact HB23.out)) (fun hHeld => ?_); clear hK; (try simp only [Act.put, List.getElem_toArray, List.getElem_cons_succ, List.getElem_cons_zero, List.setIfInBounds_toArray, List.set_cons_zero, List.set_cons_succ])
  refine wpAnyH_take (i := 5) (v := ?_) (by rfl) (by kernel_rfl) (by kernel_rfl) (by kernel_rfl) (fun _ _ _ h => h) (Or.inl ⟨by kernel_rfl, ?_⟩) (by assumption) ?_; rotate_left 1; (focus (intro w hSw; (try dsimp only at hSw); simp only [List.getElem_toArray, List.getElem_cons_succ, List.getElem_cons_zero]; all_goals go_simp; all_goals (try with_reducible rfl))); (try simp only [Act.put, List.getElem_toArray, List.getElem_cons_succ, List.getElem_cons_zero, List.setIfInBounds_toArray, List.set_cons_zero, List.set_cons_succ])
  refine wpAnyH_take (i := 6) (v := ?_) (by rfl) (by kernel_rfl) (by kernel_rfl) (by kernel_rfl) (fun _ _ _ h => h) (Or.inl ⟨by kernel_rfl, ?_⟩) (by assumption) ?_; rotate_left 1; (focus (intro w hSw; (try dsimp only at hSw); simp only [List.getElem_toArray, List.getElem_cons_succ, List.getElem_cons_zero]; all_goals go_simp; all_goals (try with_reducible rfl))); (try simp only [Act.put, List.getElem_toArray, List.getElem_cons_succ, List.getElem_cons_zero, List.setIfInBounds_toArray, List.set_cons_zero, List.set_cons_succ])
  refine wpAnyH_take (i := 7) (v := ?_) (by rfl) (by kernel_rfl) (by kernel_rfl) (by kernel_rfl) (fun _ _ _ h => h) (Or.inl ⟨by kernel_rfl, ?_⟩) (by assumption) ?_; rotate_left 1; (focus (intro w hSw; (try dsimp only at hSw); simp only [List.getElem_toArray, List.getElem_cons_succ, List.getElem_cons_zero]; all_goals go_simp; all_goals (try with_reducible rfl))); (try simp only [Act.put, List.getElem_toArray, List.getElem_cons_succ, List.getElem_cons_zero, List.setIfInBounds_toArray, List.set_cons_zero, List.set_cons_succ])
  refine wpAnyH_take (i := 8) (v := ?_) (by rfl) (by kernel_rfl) (by kernel_rfl) (by kernel_rfl) (fun _ _ _ h => h) (Or.inl ⟨by kernel_rfl, ?_⟩) (by assumption) ?_; rotate_left 1; (focus (intro w hSw; (try dsimp only at hSw); simp only [List.getElem_toArray, List.getElem_cons_succ, List.getElem_cons_zero]; all_goals go_simp; all_goals (try with_reducible rfl))); (try simp only [Act.put, List.getElem_toArray, List.getElem_cons_succ, List.getElem_cons_zero, List.setIfInBounds_toArray, List.set_cons_zero, List.set_cons_succ])
  refine wpAnyH_take (i := 9) (v := ?_) (by rfl) (by kernel_rfl) (by kernel_rfl) (by kernel_rfl) (fun _ _ _ h => h) (Or.inl ⟨by kernel_rfl, ?_⟩) (by assumption) ?_; rotate_left 1; (focus (intro w hSw; (try dsimp only at hSw); simp only [List.getElem_toArray, List.getElem_cons_succ, List.getElem_cons_zero]; all_goals go_simp; all_goals (try with_reducible rfl))); (try simp only [Act.put, List.getElem_toArray, List.getElem_cons_succ, List.getElem_cons_zero, List.setIfInBounds_toArray, List.set_cons_zero, List.set_cons_succ])
  refine wpAnyH_take (i := 10) (v := ?_) (by rfl) (by kernel_rfl) (by kernel_rfl) (by kernel_rfl) (fun _ _ _ h => h) (Or.inl ⟨by kernel_rfl, ?_⟩) (by assumption) ?_; rotate_left 1; (focus (intro w hSw; (try dsimp only at hSw); simp only [List.getElem_toArray, List.getElem_cons_succ, List.getElem_cons_zero]; all_goals go_simp; all_goals (try with_reducible rfl))); (try simp only [Act.put, List.getElem_toArray, List.getElem_cons_succ, List.getElem_cons_zero, List.setIfInBounds_toArray, List.set_cons_zero, List.set_cons_succ])
  refine wpAnyH_take (i := 11) (v := ?_) (by rfl) (by kernel_rfl) (by kernel_rfl) (by kernel_rfl) (fun _ _ _ h => h) (Or.inl ⟨by kernel_rfl, ?_⟩) (by assumption) ?_; rotate_left 1; (focus (intro w hSw; (try dsimp only at hSw); simp only [List.getElem_toArray, List.getElem_cons_succ, List.getElem_cons_zero]; all_goals go_simp; all_goals (try with_reducible rfl))); (try simp only [Act.put, List.getElem_toArray, List.getElem_cons_succ, List.getElem_cons_zero, List.setIfInBounds_toArray, List.set_cons_zero, List.set_cons_succ])
  refine wpAnyH_take (i := 12) (v := ?_) (by rfl) (by kernel_rfl) (by kernel_rfl) (by kernel_rfl) (fun _ _ _ h => h) (Or.inl ⟨by kernel_rfl, ?_⟩) (by assumption) ?_; rotate_left 1; (focus (intro w hSw; (try dsimp only at hSw); simp only [List.getElem_toArray, List.getElem_cons_succ, List.getElem_cons_zero]; all_goals go_simp; all_goals (try with_reducible rfl))); (try simp only [Act.put, List.getElem_toArray, List.getElem_cons_succ, List.getElem_cons_zero, List.setIfInBounds_toArray, List.set_cons_zero, List.set_cons_succ])
  refine wpAnyH_take (i := 13) (v := ?_) (by rfl) (by kernel_rfl) (by kernel_rfl) (by kernel_rfl) (fun _ _ _ h => h) (Or.inl ⟨by kernel_rfl, ?_⟩) (by assumption) ?_; rotate_left 1; (focus (intro w hSw; (try dsimp only at hSw); simp only [List.getElem_toArray, List.getElem_cons_succ, List.getElem_cons_zero]; all_goals go_simp; all_goals (try with_reducible rfl))); (try simp only [Act.put, List.getElem_toArray, List.getElem_cons_succ, List.getElem_cons_zero, List.setIfInBounds_toArray, List.set_cons_zero, List.set_cons_succ])
  refine wpAnyH_take (i := 14) (v := ?_) (by rfl) (by kernel_rfl) (by kernel_rfl) (by kernel_rfl) (fun _ _ _ h => h) (Or.inl ⟨by kernel_rfl, ?_⟩) (by assumption) ?_; rotate_left 1; (focus (intro w hSw; (try dsimp only at hSw); simp only [List.getElem_toArray, List.getElem_cons_succ, List.getElem_cons_zero]; all_goals go_simp; all_goals (try with_reducible rfl))); (try simp only [Act.put, List.getElem_toArray, List.getElem_cons_succ, List.getElem_cons_zero, List.setIfInBounds_toArray, List.set_cons_zero, List.set_cons_succ])
  refine wpAnyH_take (i := 15) (v := ?_) (by rfl) (by kernel_rfl) (by kernel_rfl) (by kernel_rfl) (fun _ _ _ h => h) (Or.inl ⟨by kernel_rfl, ?_⟩) (by assumption) ?_; rotate_left 1; (focus (intro w hSw; (try dsimp only at hSw); simp only [List.getElem_toArray, List.getElem_cons_succ, List.getElem_cons_zero]; all_goals go_simp; all_goals (try with_reducible rfl))); (try simp only [Act.put, List.getElem_toArray, List.getElem_cons_succ, List.getElem_cons_zero, List.setIfInBounds_toArray, List.set_cons_zero, List.set_cons_succ])
  refine wpAnyH_take (i := 16) (v := ?_) (by rfl) (by kernel_rfl) (by kernel_rfl) (by kernel_rfl) (fun _ _ _ h => h) (Or.inl ⟨by kernel_rfl, ?_⟩) (by assumption) ?_; rotate_left 1; (focus (intro w hSw; (try dsimp only at hSw); simp only [List.getElem_toArray, List.getElem_cons_succ, List.getElem_cons_zero]; all_goals go_simp; all_goals (try with_reducible rfl))); (try simp only [Act.put, List.getElem_toArray, List.getElem_cons_succ, List.getElem_cons_zero, List.setIfInBounds_toArray, List.set_cons_zero, List.set_cons_succ])
  refine wpAnyH_take (i := 17) (v := ?_) (by rfl) (by kernel_rfl) (by kernel_rfl) (by kernel_rfl) (fun _ _ _ h => h) (Or.inl ⟨by kernel_rfl, ?_⟩) (by assumption) ?_; rotate_left 1; (focus (intro w hSw; (try dsimp only at hSw); simp only [List.getElem_toArray, List.getElem_cons_succ, List.getElem_cons_zero]; all_goals go_simp; all_goals (try with_reducible rfl))); (try simp only [Act.put, List.getElem_toArray, List.getElem_cons_succ, List.getElem_cons_zero, List.setIfInBounds_toArray, List.set_cons_zero, List.set_cons_succ])
  refine wpAnyH_take (i := 18) (v := ?_) (by rfl) (by kernel_rfl) (by kernel_rfl) (by kernel_rfl) (fun _ _ _ h => h) (Or.inl ⟨by kernel_rfl, ?_⟩) (by assumption) ?_; rotate_left 1; (focus (intro w hSw; (try dsimp only at hSw); simp only [List.getElem_toArray, List.getElem_cons_succ, List.getElem_cons_zero]; all_goals go_simp; all_goals (try with_reducible rfl))); (try simp only [Act.put, List.getElem_toArray, List.getElem_cons_succ, List.getElem_cons_zero, List.setIfInBounds_toArray, List.set_cons_zero, List.set_cons_succ])
  refine wpAnyH_take (i := 19) (v := ?_) (by rfl) (by kernel_rfl) (by kernel_rfl) (by kernel_rfl) (fun _ _ _ h => h) (Or.inl ⟨by kernel_rfl, ?_⟩) (by assumption) ?_; rotate_left 1; (focus (intro w hSw; (try dsimp only at hSw); simp only [List.getElem_toArray, List.getElem_cons_succ, List.getElem_cons_zero]; all_goals go_simp; all_goals (try with_reducible rfl))); (try simp only [Act.put, List.getElem_toArray, List.getElem_cons_succ, List.getElem_cons_zero, List.setIfInBounds_toArray, List.set_cons_zero, List.set_cons_succ])
  refine wpAnyH_take (i := 20) (v := ?_) (by rfl) (by kernel_rfl) (by kernel_rfl) (by kernel_rfl) (fun _ _ _ h => h) (Or.inl ⟨by kernel_rfl, ?_⟩) (by assumption) ?_; rotate_left 1; (focus (intro w hSw; (try dsimp only at hSw); simp only [List.getElem_toArray, List.getElem_cons_succ, List.getElem_cons_zero]; all_goals go_simp; all_goals (try with_reducible rfl))); (try simp only [Act.put, List.getElem_toArray, List.getElem_cons_succ, List.getElem_cons_zero, List.setIfInBounds_toArray, List.set_cons_zero, List.set_cons_succ])
  refine wpAnyH_ready (rs := [21]) (by kernel_rfl) (by simp) ?_; refine AllReadyH.cons (by rfl) (fun K hK => ?_) AllReadyH.nil; rw [if_pos (by kernel_rfl)]; simp only [List.getElem_toArray, List.getElem_cons_succ, List.getElem_cons_zero]
  go_wp2_with (first
    | (go_at_call 24; (with_reducible refine (samekey_self 0 0 0 0 0 _).mono ?_); rintro e w19 ⟨rfl, hb⟩; have HB19 := Lib.hid (HB18.out.trans (hb.mono HB18.out.size)); clear hb))
  refine hK.out _ _ (HSS.out w19 (by first | exact HB18.out | exact HB19.out | exact HB20.out | exact HB21.out | exact HB22.out | exact HB23.out)) (fun hHeld => ?_); clear hK; (try simp only [Act.put, List.getElem_toArray, List.getElem_cons_succ, List.getElem_cons_zero, List.setIfInBounds_toArray, List.set_cons_zero, List.set_cons_succ])
  refine wpAnyH_take (i := 22) (v := ?_) (by rfl) (by kernel_rfl) (by kernel_rfl) (by kernel_rfl) (fun _ _ _ h => h) (Or.inl ⟨by kernel_rfl, ?_⟩) (by assumption) ?_; rotate_left 1; (focus (intro w hSw; (try dsimp only at hSw); simp only [List.getElem_toArray, List.getElem_cons_succ, List.getElem_cons_zero]; all_goals go_simp; all_goals (try with_reducible rfl))); (try simp only [Act.put, List.getElem_toArray, List.getElem_cons_succ, List.getElem_cons_zero, List.setIfInBounds_toArray, List.set_cons_zero, List.set_cons_succ])
  refine wpAnyH_take (i := 23) (v := ?_) (by rfl) (by kernel_rfl) (by kernel_rfl) (by kernel_rfl) (fun _ _ _ h => h) (Or.inl ⟨by kernel_rfl, ?_⟩) (by assumption) ?_; rotate_left 1; (focus (intro w hSw; (try dsimp only at hSw); simp only [List.getElem_toArray, List.getElem_cons_succ, List.getElem_cons_zero]; all_goals go_simp; all_goals (try with_reducible rfl))); (try simp only [Act.put, List.getElem_toArray, List.getElem_cons_succ, List.getElem_cons_zero, List.setIfInBounds_toArray, List.set_cons_zero, List.set_cons_succ])
  refine wpAnyH_take (i := 24) (v := ?_) (by rfl) (by kernel_rfl) (by kernel_rfl) (by kernel_rfl) (fun _ _ _ h => h) (Or.inl ⟨by kernel_rfl, ?_⟩) (by assumption) ?_; rotate_left 1; (focus (intro w hSw; (try dsimp only at hSw); simp only [List.getElem_toArray, List.getElem_cons_succ, List.getElem_cons_zero]; all_goals go_simp; all_goals (try with_reducible rfl))); (try simp only [Act.put, List.getElem_toArray, List.getElem_cons_succ, List.getElem_cons_zero, List.setIfInBounds_toArray, List.set_cons_zero, List.set_cons_succ])
  refine wpAnyH_take (i := 26) (v := ?_) (by rfl) (by kernel_rfl) (by kernel_rfl) (by kernel_rfl) (fun _ _ _ h => h) (Or.inl ⟨by kernel_rfl, ?_⟩) (by assumption) ?_; rotate_left 1; (focus (intro w hSw; (try dsimp only at hSw); simp only [List.getElem_toArray, List.getElem_cons_succ, List.getElem_cons_zero]; all_goals go_simp; all_goals (try with_reducible rfl))); (try simp only [Act.put, List.getElem_toArray, List.getElem_cons_succ, List.getElem_cons_zero, List.setIfInBounds_toArray, List.set_cons_zero, List.set_cons_succ])
  refine wpAnyH_ready (rs := [25]) (by kernel_rfl) (by simp) ?_; refine AllReadyH.cons (by rfl) (fun K hK => ?_) AllReadyH.nil; rw [if_pos (by kernel_rfl)]; simp only [List.getElem_toArray, List.getElem_cons_succ, List.getElem_cons_zero]
  go_wp2_with (first
    | (go_at_call 67; (with_reducible refine (dkey_of (P := P) 0 0 0 0 0 0 _ (fun W hb => dkeyof_dead 4 0 0 0 (Lib.hid z_castD) HDe W (HTd.out W (HB19.out.trans (hb.mono HB19.out.size))))).mono ?_); rintro e w20 ⟨rfl, hb⟩; have HB20 := Lib.hid (HB19.out.trans (hb.mono HB19.out.size)); clear hb))
  refine hK.out _ _ (HSS.out w20 (by first | exact HB18.out | exact HB19.out | exact HB20.out | exact HB21.out | exact HB22.out | exact HB23.out)) (fun hHeld => ?_); clear hK; (try simp only [Act.put, List.getElem_toArray, List.getElem_cons_succ, List.getElem_cons_zero, List.setIfInBounds_toArray, List.set_cons_zero, List.set_cons_succ])
  refine wpAnyH_ready (rs := [27]) (by kernel_rfl) (by simp) ?_; refine AllReadyH.cons (by rfl) (fun K hK => ?_) AllReadyH.nil; rw [if_pos (by kernel_rfl)]; simp only [List.getElem_toArray, List.getElem_cons_succ, List.getElem_cons_zero]
  go_wp2_with (first
    | (go_at_call 24; (with_reducible refine (samekey_self 0 0 0 0 0 _).mono ?_); rintro e w21 ⟨rfl, hb⟩; have HB21 := Lib.hid (HB20.out.trans (hb.mono HB20.out.size)); clear hb))
  refine hK.out _ _ (HSS.out w21 (by first | exact HB18.out | exact HB19.out | exact HB20.out | exact HB21.out | exact HB22.out | exact HB23.out)) (fun hHeld => ?_); clear hK; (try simp only [Act.put, List.getElem_toArray, List.getElem_cons_succ, List.getElem_cons_zero, List.setIfInBounds_toArray, List.set_cons_zero, List.set_cons_succ])
  refine wpAnyH_take (i := 28) (v := ?_) (by rfl) (by kernel_rfl) (by kernel_rfl) (by kernel_rfl) (fun _ _ _ h => h) (Or.inl ⟨by kernel_rfl, ?_⟩) (by assumption) ?_; rotate_left 1; (focus (intro w hSw; (try dsimp only at hSw); simp only [List.getElem_toArray, List.getElem_cons_succ, List.getElem_cons_zero]; all_goals go_simp; all_goals (try with_reducible rfl))); (try simp only [Act.put, List.getElem_toArray, List.getElem_cons_succ, List.getElem_cons_zero, List.setIfInBounds_toArray, List.set_cons_zero, List.set_cons_succ])
  refine wpAnyH_take (i := 29) (v := ?_) (by rfl) (by kernel_rfl) (by kernel_rfl) (by kernel_rfl) (fun _ _ _ h => h) (Or.inl ⟨by kernel_rfl, ?_⟩) (by assumption) ?_; rotate_left 1; (focus (intro w hSw; (try dsimp only at hSw); simp only [List.getElem_toArray, List.getElem_cons_succ, List.getElem_cons_zero]; all_goals go_simp; all_goals (try with_reducible rfl))); (try simp only [Act.put, List.getElem_toArray, List.getElem_cons_succ, List.getElem_cons_zero, List.setIfInBounds_toArray, List.set_cons_zero, List.set_cons_succ])
  refine wpAnyH_take (i := 30) (v := ?_) (by rfl) (by kernel_rfl) (by kernel_rfl) (by kernel_rfl) (fun _ _ _ h => h) (Or.inl ⟨by kernel_rfl, ?_⟩) (by assumption) ?_; rotate_left 1; (focus (intro w hSw; (try dsimp only at hSw); simp only [List.getElem_toArray, List.getElem_cons_succ, List.getElem_cons_zero]; all_goals go_simp; all_goals (try with_reducible rfl))); (try simp only [Act.put, List.getElem_toArray, List.getElem_cons_succ, List.getElem_cons_zero, List.setIfInBounds_toArray, List.set_cons_zero, List.set_cons_succ])
  refine wpAnyH_take (i := 32) (v := ?_) (by rfl) (by kernel_rfl) (by kernel_rfl) (by kernel_rfl) (fun _ _ _ h => h) (Or.inl ⟨by kernel_rfl, ?_⟩) (by assumption) ?_; rotate_left 1; (focus (intro w hSw; (try dsimp only at hSw); simp only [List.getElem_toArray, List.getElem_cons_succ, List.getElem_cons_zero]; all_goals go_simp; all_goals (try with_reducible rfl))); (try simp only [Act.put, List.getElem_toArray, List.getElem_cons_succ, List.getElem_cons_zero, List.setIfInBounds_toArray, List.set_cons_zero, List.set_cons_succ])
  refine wpAnyH_ready (rs := [31]) (by kernel_rfl) (by simp) ?_; refine AllReadyH.cons (by rfl) (fun K hK => ?_) AllReadyH.nil; rw [if_pos (by kernel_rfl)]; simp only [List.getElem_toArray, List.getElem_cons_succ, List.getElem_cons_zero]
  go_wp2_with (first
    | (go_at_call 70; (with_reducible refine (dresume_dead 0 0 (Lib.hid z_castD) HDe _ (HTd.out _ HB21.out)).mono ?_); rintro e w22 ⟨rfl, hb⟩; have HB22 := Lib.hid (HB21.out.trans (hb.mono HB21.out.size)); clear hb))
  refine hK.out _ _ (HSS.out w22 (by first | exact HB18.out | exact HB19.out | exact HB20.out | exact HB21.out | exact HB22.out | exact HB23.out)) (fun hHeld => ?_); clear hK; (try simp only [Act.put, List.getElem_toArray, List.getElem_cons_succ, List.getElem_cons_zero, List.setIfInBounds_toArray, List.set_cons_zero, List.set_cons_succ])
  refine wpAnyH_ready (rs := [33]) (by kernel_rfl) (by simp) ?_; refine AllReadyH.cons (by rfl) (fun K hK => ?_) AllReadyH.nil; rw [if_pos (by kernel_rfl)]; simp only [List.getElem_toArray, List.getElem_cons_succ, List.getElem_cons_zero]
  go_wp2_with (first
    | (go_at_call 24; (with_reducible refine (samekey_self 0 0 0 0 0 _).mono ?_); rintro e w23 ⟨rfl, hb⟩; have HB23 := Lib.hid (HB22.out.trans (hb.mono HB22.out.size)); clear hb))
  refine hK.out _ _ (HSS.out w23 (by first | exact HB18.out | exact HB19.out | exact HB20.out | exact HB21.out | exact HB22.out | exact HB23.out)) (fun hHeld => ?_); clear hK; (try simp only [Act.put, List.getElem_toArray, List.getElem_cons_succ, List.getElem_cons_zero, List.setIfInBounds_toArray, List.set_cons_zero, List.set_cons_succ])
  refine wpAnyH_take (i := 34) (v := ?_) (by rfl) (by kernel_rfl) (by kernel_rfl) (by kernel_rfl) (fun _ _ _ h => h) (Or.inl ⟨by kernel_rfl, ?_⟩) (by assumption) ?_; rotate_left 1; (focus (intro w hSw; (try dsimp only at hSw); simp only [List.getElem_toArray, List.getElem_cons_succ, List.getElem_cons_zero]; all_goals go_simp; all_goals (try with_reducible rfl))); (try simp only [Act.put, List.getElem_toArray, List.getElem_cons_succ, List.getElem_cons_zero, List.setIfInBounds_toArray, List.set_cons_zero, List.set_cons_succ])
  refine wpAnyH_take (i := 35) (v := ?_) (by rfl) (by kernel_rfl) (by kernel_rfl) (by kernel_rfl) (fun _ _ _ h => h) (Or.inl ⟨by kernel_rfl, ?_⟩) (by assumption) ?_; rotate_left 1; (focus (intro w hSw; (try dsimp only at hSw); simp only [List.getElem_toArray, List.getElem_cons_succ, List.getElem_cons_zero]; all_goals go_simp; all_goals (try with_reducible rfl))); (try simp only [Act.put, List.getElem_toArray, List.getElem_cons_succ, List.getElem_cons_zero, List.setIfInBounds_toArray, List.set_cons_zero, List.set_cons_succ])
  refine wpAnyH_take (i := 36) (v := ?_) (by rfl) (by kernel_rfl) (by kernel_rfl) (by kernel_rfl) (fun _ _ _ h => h) (Or.inl ⟨by kernel_rfl, ?_⟩) (by assumption) ?_; rotate_left 1; (focus (intro w hSw; (try dsimp only at hSw); simp only [List.getElem_toArray, List.getElem_cons_succ, List.getElem_cons_zero]; all_goals go_simp; all_goals (try with_reducible rfl))); (try simp only [Act.put, List.getElem_toArray, List.getElem_cons_succ, List.getElem_cons_zero, List.setIfInBounds_toArray, List.set_cons_zero, List.set_cons_succ])
  refine wpAnyH_take (i := 37) (v := ?_) (by rfl) (by kernel_rfl) (by kernel_rfl) (by kernel_rfl) (fun _ _ _ h => h) (Or.inl ⟨by kernel_rfl, ?_⟩) (by assumption) ?_; rotate_left 1; (focus (intro w hSw; (try dsimp only at hSw); simp only [List.getElem_toArray, List.getElem_cons_succ, List.getElem_cons_zero]; all_goals go_simp; all_goals (try with_reducible rfl))); (try simp only [Act.put, List.getElem_toArray, List.getElem_cons_succ, List.getElem_cons_zero, List.setIfInBounds_toArray, List.set_cons_zero, List.set_cons_succ])
  refine wpAnyH_take (i := 38) (v := ?_) (by rfl) (by kernel_rfl) (by kernel_rfl) (by kernel_rfl) (fun _ _ _ h => h) (Or.inl ⟨by kernel_rfl, ?_⟩) (by assumption) ?_; rotate_left 1; (focus (intro w hSw; (try dsimp only at hSw); simp only [List.getElem_toArray, List.getElem_cons_succ, List.getElem_cons_zero]; all_goals go_simp; all_goals (try with_reducible rfl))); (try simp only [Act.put, List.getElem_toArray, List.getElem_cons_succ, List.getElem_cons_zero, List.setIfInBounds_toArray, List.set_cons_zero, List.set_cons_succ])
  refine wpAnyH_take (i := 39) (v := ?_) (by rfl) (by kernel_rfl) (by kernel_rfl) (by kernel_rfl) (fun _ _ _ h => h) (Or.inl ⟨by kernel_rfl, ?_⟩) (by assumption) ?_; rotate_left 1; (focus (intro w hSw; (try dsimp only at hSw); simp only [List.getElem_toArray, List.getElem_cons_succ, List.getElem_cons_zero]; all_goals go_simp; all_goals (try with_reducible rfl))); (try simp only [Act.put, List.getElem_toArray, List.getElem_cons_succ, List.getElem_cons_zero, List.setIfInBounds_toArray, List.set_cons_zero, List.set_cons_succ])
  refine wpAnyH_ready (rs := [40]) (by kernel_rfl) (by simp) ?_; refine AllReadyH.cons (by rfl) (fun K hK => ?_) AllReadyH.nil; rw [if_pos (by kernel_rfl)]; simp only [List.getElem_toArray, List.getElem_cons_succ, List.getElem_cons_zero]
  go_wp2_with (first
    | (go_at_call 72; (with_reducible refine (aver_x 0 0 (Lib.hid z_castD) (by decide) 1 HVe _ (HTd.out _ HB23.out).pl.ar).mono ?_); rintro e w24 ⟨rfl, rfl⟩))
  refine hK.out _ _ (HSS.out _ HB23.out) (fun hHeld => ?_)
  clear hK K
  (try simp only [Act.put, List.getElem_toArray, List.getElem_cons_succ, List.getElem_cons_zero, List.setIfInBounds_toArray, List.set_cons_zero, List.set_cons_succ])
  refine wpAnyH_take (i := 41) (v := ?_) (by rfl) (by kernel_rfl) (by kernel_rfl) (by kernel_rfl) (fun _ _ _ h => h) (Or.inl ⟨by kernel_rfl, ?_⟩) (by assumption) ?_; rotate_left 1; (focus (intro w hSw; (try dsimp only at hSw); simp only [List.getElem_toArray, List.getElem_cons_succ, List.getElem_cons_zero]; all_goals go_simp; all_goals (try with_reducible rfl))); (try simp only [Act.put, List.getElem_toArray, List.getElem_cons_succ, List.getElem_cons_zero, List.setIfInBounds_toArray, List.set_cons_zero, List.set_cons_succ])
  refine wpAnyH_take (i := 42) (v := ?_) (by rfl) (by kernel_rfl) (by kernel_rfl) (by kernel_rfl) (fun _ _ _ h => h) (Or.inl ⟨by kernel_rfl, ?_⟩) (by assumption) ?_; rotate_left 1; (focus (intro w hSw; (try dsimp only at hSw); simp only [List.getElem_toArray, List.getElem_cons_succ, List.getElem_cons_zero]; all_goals go_simp; all_goals (try with_reducible rfl))); (try simp only [Act.put, List.getElem_toArray, List.getElem_cons_succ, List.getElem_cons_zero, List.setIfInBounds_toArray, List.set_cons_zero, List.set_cons_succ])
  refine wpAnyH_take (i := 43) (v := ?_) (by rfl) (by kernel_rfl) (by kernel_rfl) (by kernel_rfl) (fun _ _ _ h => h) (Or.inl ⟨by kernel_rfl, ?_⟩) (by assumption) ?_; rotate_left 1; (focus (intro w hSw; (try dsimp only at hSw); simp only [List.getElem_toArray, List.getElem_cons_succ, List.getElem_cons_zero]; all_goals go_simp; all_goals (try with_reducible rfl))); (try simp only [Act.put, List.getElem_toArray, List.getElem_cons_succ, List.getElem_cons_zero, List.setIfInBounds_toArray, List.set_cons_zero, List.set_cons_succ])
  refine wpAnyH_done (by kernel_rfl) ?_ _
  refine NoPanic.normal ?_
  go_wp2_with fail
  go_ret
  exact ⟨rfl, HB17.out.trans (HB23.out.mono HB17.out.size)⟩

theorem walk_DomResumes (a0 : Int) (a1 : Int) (w : World) (w0 : (Lit.int .i64 a0).wf = true) (w1 : (Lit.int .i64 a1).wf = true) (hL : laidMetH Tryd.prog Rows.domResumesRow.laid w) :
    Calls Tryd.prog 7 #[.int .i64 a0, .int .i64 a1] w fun e w' => e = .returned (.bool true) ∧ Below w.heap.size w w' := by
  obtain ⟨vs, vr, hE⟩ := (errs2 hL ⟨_, by repeat (first | exact List.Mem.head _ | apply List.Mem.tail)⟩ ⟨_, by repeat (first | exact List.Mem.head _ | apply List.Mem.tail)⟩)
  clear hL
  obtain ⟨R, hR, CR⟩ := number_nat a0 4 4 rfl (by decide) (by decide) (fit64 w0).1 (fit64 w0).2
  obtain ⟨M, hM, CM⟩ := number_nat a1 1000 1000 rfl (by decide) (by decide) (fit64 w1).1 (fit64 w1).2
  by_cases h1 : R = 1
  · subst h1
    exact dres_yes a0 a1 1 M (M : Int) hM (Lib.hid CR) (Lib.hid CM) (Lib.hid rfl) w _ _ hE
  · exact dres_no a0 a1 R M ((R : Int) + 1) (M : Int) (Lib.hid rfl) hR h1 hM (Lib.hid CR) (Lib.hid CM) (Lib.hid rfl) w _ _ hE
end Go.Proofs.YtkogmhgpkacehaaDoor
