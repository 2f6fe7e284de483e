/-
  Ya, Yr, Yd as one.
-/
import Derived.Test.YtncopdhhchmpeaaGreatDoorMt
import Derived.Test.YtncopdhhchmpeaaGreatDoorMk
import Derived.Test.YtncopdhhchmpeaaGreatDoorP10
import Derived.Test.YtncopdhhchmpeaaGreatDoorP9
namespace Go.Proofs.YtncopdhhchmpeaaGreatDoor
open Go.ChangeShapes Go.WideShapes Go.ChangeAt Go.RowKit
set_option linter.unusedVariables false
set_option linter.unusedSimpArgs false
/-- What a system's own cells hold: pointers to all its parts, no words, its steps. -/
structure SyB (w : World) (s m d t b f q : Nat) (st : Int) : Prop where
  lt : s < w.heap.size
  c0 : w.cell? ⟨s, 0, none⟩ = some (.pointer (some ⟨m, 0, none⟩))
  c1 : w.cell? ⟨s, 1, none⟩ = some (.pointer (some ⟨d, 0, none⟩))
  c2 : w.cell? ⟨s, 2, none⟩ = some (.pointer (some ⟨t, 0, none⟩))
  c3 : w.cell? ⟨s, 3, none⟩ = some (.pointer (some ⟨b, 0, none⟩))
  c4 : w.cell? ⟨s, 4, none⟩ = some (.pointer (some ⟨f, 0, none⟩))
  c5 : w.cell? ⟨s, 5, none⟩ = some (.pointer (some ⟨q, 0, none⟩))
  c8 : w.cell? ⟨s, 8, none⟩ = some (.int .i64 st)
theorem SyB.same {w w' : World} {s m d t b f q : Nat} {st : Int} (h : SyB w s m d t b f q st) (hs : w.heap.size ≤ w'.heap.size) (hb : w'.heap[s]? = w.heap[s]?) : SyB w' s m d t b f q st :=
  ⟨Nat.lt_of_lt_of_le h.lt hs, (World.cell?_of_block (a := ⟨s, 0, none⟩) hb).trans h.c0, (World.cell?_of_block (a := ⟨s, 1, none⟩) hb).trans h.c1, (World.cell?_of_block (a := ⟨s, 2, none⟩) hb).trans h.c2, (World.cell?_of_block (a := ⟨s, 3, none⟩) hb).trans h.c3, (World.cell?_of_block (a := ⟨s, 4, none⟩) hb).trans h.c4, (World.cell?_of_block (a := ⟨s, 5, none⟩) hb).trans h.c5, (World.cell?_of_block (a := ⟨s, 8, none⟩) hb).trans h.c8⟩
theorem SyB.below {w w' : World} {s m d t b f q : Nat} {st : Int} (h : SyB w s m d t b f q st) (hb : Below w.heap.size w w') : SyB w' s m d t b f q st := h.same hb.size (hb.block s h.lt)
/-- Where the meters, the factories, the queue and the system's own cells lie. -/
structure SLoc where
  s : Nat
  q : Nat
  tB : Nat
  tP : Nat
  tp : Nat
  tR : Nat
  tG : Nat
  tn : Nat
  fB : Nat
  fP : Nat
  fp : Nat
  fR : Nat
  fG : Nat
  fn : Nat
/-- A system, new: nothing is there. -/
structure SysNew (w0 w : World) (L : BLoc) (X : SLoc) : Prop where
  k : BW w0 w L st0
  z : L.z = 16
  t : MtAt w X.tB X.tP X.tp X.tR X.tG X.tn X.tn (fun _ => false) (fun _ => 0) (fun _ => 0) (fun _ => 0)
  f : PlAt 127 31 w X.fB X.fP X.fp X.fR X.fG X.fn X.fn (fun _ => false) (fun _ => 0) (fun _ b => zk b)
  b : SyB w X.s L.mb L.dP X.tP L.P X.fP X.q 0
  q0 : w.cell? ⟨X.q, 0, none⟩ = some (.slice none 0 0)
  q1 : w.cell? ⟨X.q, 1, none⟩ = some (.map none)
  ql : X.q < w.heap.size
  lo : L.T ≤ X.s ∧ L.T ≤ X.q ∧ X.s ≠ X.q ∧ L.T ≤ X.fB ∧ w0.heap.size ≤ X.tB
theorem SysNew.below {w0 w w' : World} {L : BLoc} {X : SLoc} (h : SysNew w0 w L X) (hb : Below w.heap.size w w') : SysNew w0 w' L X :=
  ⟨h.k.below hb, h.z, h.t.below hb, h.f.below hb, h.b.below hb, (hb.cell (p := ⟨X.q, 0, none⟩) h.ql).trans h.q0, (hb.cell (p := ⟨X.q, 1, none⟩) h.ql).trans h.q1, Nat.lt_of_lt_of_le h.ql hb.size, h.lo⟩
theorem MMD.base {w00 w0 w : World} {L : BLoc} {D : BSt} (h : MMD w0 w L D) (hb : Below w00.heap.size w00 w0) : MMD w00 w L D :=
  ⟨⟨hb.trans (h.sv.bel.mono hb.size), Nat.le_trans hb.size h.sv.wb, h.sv.st⟩, h.lo, Nat.le_trans hb.size h.n0, h.nN, h.m0, h.m1, h.ml, h.mn, h.mo, h.ca, h.ok⟩
set_option maxRecDepth 100000 in
set_option maxHeartbeats 4000000 in
theorem sys_ok (n0 n1 n2 n3 n4 n5 : Nat) (h0 : 1 ≤ n0 ∧ n0 ≤ 256) (h1 : 1 ≤ n1 ∧ n1 ≤ 256) (h2 : 1 ≤ n2 ∧ n2 ≤ 256) (h3 : 1 ≤ n3 ∧ n3 ≤ 256) (h4 : 1 ≤ n4 ∧ n4 ≤ 256) (h5 : 1 ≤ n5 ∧ n5 ≤ 256) (x0 x1 x2 x3 x4 x5 : Int) (hx : Hid (x0 = n0 ∧ x1 = n1 ∧ x2 = n2 ∧ x3 = n3 ∧ x4 = n4 ∧ x5 = n5)) (w : World) :
    Calls Tryz.prog 46 #[.agg #[.int .i64 x0, .int .i64 x1, .int .i64 x2, .int .i64 x3, .int .i64 x4, .int .i64 x5]] w fun e w' => ∃ L X, e = .returned (.tuple #[(.pointer (some ⟨X.s, 0, none⟩)), .nilIface]) ∧ SysNew w w' L X ∧ Hid (L.a.n = n0 ∧ L.b.n = n1 ∧ L.dn = n2 ∧ X.tn = n3 ∧ L.n = n4 ∧ X.fn = n5) ∧ Below w.heap.size w w' := by
  have HX0 := Lib.hid hx.out.1
  have HX1 := Lib.hid hx.out.2.1
  have HX2 := Lib.hid hx.out.2.2.1
  have HX3 := Lib.hid hx.out.2.2.2.1
  have HX4 := Lib.hid hx.out.2.2.2.2.1
  have HX5 := Lib.hid hx.out.2.2.2.2.2
  go_enter Tryz.func46, Tryz.ntmps46; go_upto_region 1 with fail; generalize hA : World.alloc w _ = wb; obtain ⟨Z, hZ⟩ : ∃ Z, Z = w.heap.size := ⟨_, rfl⟩; have HBb : Hid (Below w.heap.size w wb) := Lib.hid (by rw [← hA]; exact (Below.refl _ _).alloc (Nat.le_refl _) _); have HZl : Hid (Z < wb.heap.size) := Lib.hid (by rw [← hA, hZ]; simp); have c0 : wb.cell? ⟨Z, 0, none⟩ = some (.int .i64 x0) := (by rw [← hA, hZ]; simp); have c1 : wb.cell? ⟨Z, 1, none⟩ = some (.int .i64 x1) := (by rw [← hA, hZ]; simp); have c2 : wb.cell? ⟨Z, 2, none⟩ = some (.int .i64 x2) := (by rw [← hA, hZ]; simp); have c3 : wb.cell? ⟨Z, 3, none⟩ = some (.int .i64 x3) := (by rw [← hA, hZ]; simp); have c4 : wb.cell? ⟨Z, 4, none⟩ = some (.int .i64 x4) := (by rw [← hA, hZ]; simp); have c5 : wb.cell? ⟨Z, 5, none⟩ = some (.int .i64 x5) := (by rw [← hA, hZ]; simp); have HCk : Hid (∀ W, Below wb.heap.size wb W → W.cell? ⟨Z, 2, none⟩ = some (.int .i64 x2) ∧ W.cell? ⟨Z, 3, none⟩ = some (.int .i64 x3) ∧ W.cell? ⟨Z, 4, none⟩ = some (.int .i64 x4) ∧ W.cell? ⟨Z, 5, none⟩ = some (.int .i64 x5)) := Lib.hid (fun W hW => ⟨(hW.cell (p := ⟨Z, 2, none⟩) HZl.out).trans c2, (hW.cell (p := ⟨Z, 3, none⟩) HZl.out).trans c3, (hW.cell (p := ⟨Z, 4, none⟩) HZl.out).trans c4, (hW.cell (p := ⟨Z, 5, none⟩) HZl.out).trans c5⟩); rw [← hZ]; clear hA hZ c2 c3 c4 c5
  go_upto_region 16 with (first
    | (go_at_call 83; (with_reducible refine (mnew_ok x0 x1 16 n0 n1 HX0 HX1 h0.1 h0.2 h1.1 h1.2 (by decide) (by decide) _).mono ?_); rintro e w1 ⟨mb, S, a, b, N, cb, rfl, hm, hn⟩; have HM := Lib.hid hm; have HN := Lib.hid hn.out; have HB1 : Hid (Below wb.heap.size wb w1) := Lib.hid hm.sv.bel; obtain ⟨d2, d3, d4, d5⟩ := HCk.out _ HB1.out; clear hm hn c0 c1)
    | (go_at_call 84; (with_reducible refine (dnew_ok x2 n2 HX2 h2.1 h2.2 _).mono ?_); rintro e w2 ⟨dP, dp, dR, dG, dQ, rfl, hd, hb⟩; have HD := Lib.hid hd; have HB2 := Lib.hid hb; have HB2b := Lib.hid (HB1.out.trans (hb.mono HB1.out.size)); obtain ⟨e2, e3, e4, e5⟩ := HCk.out _ HB2b.out; clear hd hb d2 d3 d4 d5)
    | (go_at_call 85; (with_reducible refine (mtnew_ok x3 n3 HX3 h3.1 h3.2 _).mono ?_); rintro e w3 ⟨tP, tp, tR, tG, rfl, ht, hb⟩; have HT := Lib.hid ht; have HB3 := Lib.hid hb; have HB3b := Lib.hid (HB2b.out.trans (hb.mono HB2b.out.size)); obtain ⟨f2, f3, f4, f5⟩ := HCk.out _ HB3b.out; clear ht hb e2 e3 e4 e5)
    | (go_at_call 86; (with_reducible refine (bknew_ok x4 n4 mb dP HX4 h4.1 h4.2 _).mono ?_); rintro e w4 ⟨P, p, B, A, G1, G2, G3, rfl, hk, hb⟩; have HK := Lib.hid hk; have HB4 := Lib.hid hb; have HB4b := Lib.hid (HB3b.out.trans (hb.mono HB3b.out.size)); obtain ⟨g2, g3, g4, g5⟩ := HCk.out _ HB4b.out; clear hk hb f2 f3 f4 f5)
    | (go_at_call 87; (with_reducible refine (mknew_ok x5 n5 HX5 h5.1 h5.2 _).mono ?_); rintro e w5 ⟨fP, fp, fR, fG, rfl, hf, hb⟩; have HF := Lib.hid hf; have HB5 := Lib.hid hb; have HB5b := Lib.hid (HB4b.out.trans (hb.mono HB4b.out.size)); clear hf hb g2 g3 g4 g5))
  go_wp2_with fail
  go_ret2
  have s2 := HB2.out.size
  have s3 := HB3.out.size
  have s4 := HB4.out.size
  have s5 := HB5.out.size
  have hd := HD.out
  have hk := HK.out
  have hQ := (hd.qs.lt dQ rfl).2
  have b5 : Below w5.heap.size w5 ((w5.alloc (.cells #[.slice none 0 0, .map none] 135 (0, 0))).alloc (.cells #[.pointer (some ⟨mb, 0, none⟩), .pointer (some ⟨dP, 0, none⟩), .pointer (some ⟨tP, 0, none⟩), .pointer (some ⟨P, 0, none⟩), .pointer (some ⟨fP, 0, none⟩), .pointer (some ⟨w5.heap.size, 0, none⟩), .slice none 0 0, .slice none 0 0, .int .i64 0] 38 (0, 0))) := ((Below.refl _ _).alloc (Nat.le_refl _) _).alloc (by simp) _
  have b4 := HB5.out.trans (b5.mono s5)
  have b3 := HB4.out.trans (b4.mono s4)
  have b2 := HB3.out.trans (b3.mono s3)
  have b1 := HB2.out.trans (b2.mono s2)
  have hM0 : MMD w w1 ⟨mb, S, a, b, N, cb, w1.heap.size, dP, dp, dR, dG, dQ, n2, n2, w3.heap.size, P, p, B, A, G1, G2, G3, n4, n4, w4.heap.size, 16⟩ st0 := MMD.base HM.out HBb.out
  refine ⟨⟨mb, S, a, b, N, cb, w1.heap.size, dP, dp, dR, dG, dQ, n2, n2, w3.heap.size, P, p, B, A, G1, G2, G3, n4, n4, w4.heap.size, 16⟩, ⟨w5.heap.size + 1, w5.heap.size, w2.heap.size, tP, tp, tR, tG, n3, w4.heap.size, fP, fp, fR, fG, n5⟩, rfl, ?_, Lib.hid ⟨HN.out.1, HN.out.2, rfl, rfl, rfl, rfl⟩, HBb.out.trans ((HB1.out.trans (b1.mono HB1.out.size)).mono HBb.out.size)⟩
  have e : thN 0 = fun _ => false := by funext i; simp [thN]
  refine ⟨⟨MemAt.below hM0 b1, hd.below b2, ?_, ⟨HM.out.ml, HM.out.ca.cl, HM.out.nN⟩, ⟨Nat.lt_of_lt_of_le hd.pl.pl s3, Nat.lt_of_lt_of_le hd.pl.ar.pl s3, Nat.lt_of_lt_of_le hd.pl.ar.lt.2 s3, Nat.lt_of_lt_of_le hd.pl.gl.2 s3, Nat.lt_of_lt_of_le hQ s3⟩, Nat.le_trans s2 s3, fun i hi => by simp [st0] at hi, Nat.zero_le _, ⟨s4, hk.pl, hk.ar.pl, hk.ar.lt.2, hk.ac.lt.2, hk.t1.lt.2, hk.t2.lt.2, hk.t3.lt.2⟩, b4.size⟩, rfl, HT.out.below b3, HF.out.below b5, ⟨by simp, by simp, by simp, by simp, by simp, by simp, by simp, by simp⟩, by simp, by simp, (by simp; omega), ⟨Nat.le_trans s5 (Nat.le_succ _), s5, Nat.succ_ne_self _, Nat.le_refl _, Nat.le_trans HBb.out.size (Nat.le_trans HB1.out.size HB2.out.size)⟩⟩
  show BkAt _ _ _ _ _ _ _ _ _ _ _ _ _ (thN 0) _ _ _ _ _ _ _ _ _ _
  rw [e]
  exact hk.below b4
end Go.Proofs.YtncopdhhchmpeaaGreatDoor
namespace Go.Proofs.YtncopdhhchmpeaaGreatDoor
open Go.ChangeShapes Go.WideShapes Go.ChangeAt Go.RowKit
set_option linter.unusedVariables false
set_option linter.unusedSimpArgs false
theorem info_light {P : Program} {T : TypeId} (h : ((P.info? T).bind fun i => i.zero.map fun z => decide (i.bytes ≤ 4000)) = some true) : ∃ i z, P.info? T = some i ∧ i.zero = some z ∧ i.bytes ≤ 4000 := by
  cases hi : P.info? T with
  | none => rw [hi] at h; cases h
  | some i =>
    rw [hi] at h
    cases hz : i.zero with
    | none => simp [hz] at h
    | some z => simp [hz] at h; exact ⟨i, z, rfl, hz, h⟩
set_option maxRecDepth 100000 in
set_option maxHeartbeats 8000000 in
theorem rs8_is (w : World) : Calls Tryz.prog 47 #[.int .i64 12, .int .i64 12, .int .i64 6, .int .i64 8, .int .i64 6, .int .i64 4] w fun e w' => ∃ x, e = .returned (.pointer (some ⟨x, 0, none⟩)) ∧ Below w.heap.size w w' := by
  obtain ⟨iN, zN, hi1, hi2, hi3⟩ := info_light (P := Tryz.prog) (T := 163) (by kernel_rfl); have HIN := Lib.hid (⟨hi1, hi2, hi3⟩ : Tryz.prog.info? 163 = some iN ∧ iN.zero = some zN ∧ iN.bytes ≤ 4000); clear hi1 hi2 hi3
  obtain ⟨iP, zP, hi1, hi2, hi3⟩ := info_light (P := Tryz.prog) (T := 179) (by kernel_rfl); have HIP := Lib.hid (⟨hi1, hi2, hi3⟩ : Tryz.prog.info? 179 = some iP ∧ iP.zero = some zP ∧ iP.bytes ≤ 4000); clear hi1 hi2 hi3
  obtain ⟨iD, zD, hi1, hi2, hi3⟩ := info_light (P := Tryz.prog) (T := 293) (by kernel_rfl); have HID := Lib.hid (⟨hi1, hi2, hi3⟩ : Tryz.prog.info? 293 = some iD ∧ iD.zero = some zD ∧ iD.bytes ≤ 4000); clear hi1 hi2 hi3
  obtain ⟨iM, zM, hi1, hi2, hi3⟩ := info_light (P := Tryz.prog) (T := 295) (by kernel_rfl); have HIM := Lib.hid (⟨hi1, hi2, hi3⟩ : Tryz.prog.info? 295 = some iM ∧ iM.zero = some zM ∧ iM.bytes ≤ 4000); clear hi1 hi2 hi3
  obtain ⟨iB, zB, hi1, hi2, hi3⟩ := info_light (P := Tryz.prog) (T := 297) (by kernel_rfl); have HIB := Lib.hid (⟨hi1, hi2, hi3⟩ : Tryz.prog.info? 297 = some iB ∧ iB.zero = some zB ∧ iB.bytes ≤ 4000); clear hi1 hi2 hi3
  obtain ⟨iF, zF, hi1, hi2, hi3⟩ := info_light (P := Tryz.prog) (T := 299) (by kernel_rfl); have HIF := Lib.hid (⟨hi1, hi2, hi3⟩ : Tryz.prog.info? 299 = some iF ∧ iF.zero = some zF ∧ iF.bytes ≤ 4000); clear hi1 hi2 hi3
  have HZ0 : Hid (Below w.heap.size w w) := Lib.hid (Below.refl _ _)
  go_enter Tryz.func47, Tryz.ntmps47
  go_upto_region 2 with (first
    | (go_at_call 88; (with_reducible refine (slots_is 12 12 (Lib.hid rfl) (by decide) w).mono ?_); rintro e w1 ⟨v1, rfl, hr, hb⟩; obtain ⟨a1, c1, rfl⟩ := own_shape' hr; have HZ1 := Lib.hid (HZ0.out.trans (hb.mono HZ0.out.size)); clear hr hb)
    | (go_at_call 88; (with_reducible refine (slots_is 12 12 (Lib.hid rfl) (by decide) w1).mono ?_); rintro e w2 ⟨v2, rfl, hr, hb⟩; obtain ⟨a2, c2, rfl⟩ := own_shape' hr; have HZ2 := Lib.hid (HZ1.out.trans (hb.mono HZ1.out.size)); clear hr hb)
    | (go_at_call 88; (with_reducible refine (slots_is 6 6 (Lib.hid rfl) (by decide) w2).mono ?_); rintro e w3 ⟨v3, rfl, hr, hb⟩; obtain ⟨a3, c3, rfl⟩ := own_shape' hr; have HZ3 := Lib.hid (HZ2.out.trans (hb.mono HZ2.out.size)); clear hr hb)
    | (go_at_call 88; (with_reducible refine (slots_is 8 8 (Lib.hid rfl) (by decide) w3).mono ?_); rintro e w4 ⟨v4, rfl, hr, hb⟩; obtain ⟨a4, c4, rfl⟩ := own_shape' hr; have HZ4 := Lib.hid (HZ3.out.trans (hb.mono HZ3.out.size)); clear hr hb)
    | (go_at_call 88; (with_reducible refine (slots_is 6 6 (Lib.hid rfl) (by decide) w4).mono ?_); rintro e w5 ⟨v5, rfl, hr, hb⟩; obtain ⟨a5, c5, rfl⟩ := own_shape' hr; have HZ5 := Lib.hid (HZ4.out.trans (hb.mono HZ4.out.size)); clear hr hb)
    | (go_at_call 88; (with_reducible refine (slots_is 4 4 (Lib.hid rfl) (by decide) w5).mono ?_); rintro e w6 ⟨v6, rfl, hr, hb⟩; obtain ⟨a6, c6, rfl⟩ := own_shape' hr; have HZ6 := Lib.hid (HZ5.out.trans (hb.mono HZ5.out.size)); clear hr hb))
  obtain ⟨w7, hw7⟩ : ∃ w7, w7 = w6.alloc (.cells #[.slice a1 12 c1, .slice a2 12 c2, .slice a3 6 c3, .slice a4 8 c4, .slice a5 6 c5, .slice a6 4 c6, .slice none 0 0, .slice none 0 0, .slice none 0 0, .slice none 0 0, .slice none 0 0, .slice none 0 0, .slice none 0 0, .slice none 0 0, .slice none 0 0, .int .i64 0] 155 (0, 0)) := ⟨_, rfl⟩
  have HX7 : Hid (SyBx w6 w7 w6.heap.size) := Lib.hid (by
    rw [hw7]
    exact ⟨(Below.refl _ _).alloc (Nat.le_refl _) _, rfl, ⟨_, own_box w6 _ _ _ 16 _ rfl rfl (Nat.le_refl _)⟩⟩)
  rw [← hw7]
  clear hw7
  go_wp2_with (first
    | (at_make; refine wpList_make_full _ rfl _ _ 148 rfl 0 163 iN zN iN.size Tryz.underlying148 HIN.out.1 HIN.out.2.1 rfl .i64 .i64 _ _ 12 rfl rfl rfl rfl (by have := HIN.out.2.2; omega) (by decide) (Nat.zero_le _) ?_); intro w8 hown hgrow; have HX8 := Lib.hid (HX7.out.grow hgrow); obtain ⟨⟨u6, c6⟩, z6⟩ := HX8.out.cell 6 (by decide); clear hown hgrow
    | (at_make; refine wpList_make_full _ rfl _ _ 149 rfl 0 179 iP zP iP.size Tryz.underlying149 HIP.out.1 HIP.out.2.1 rfl .i64 .i64 _ _ 12 rfl rfl rfl rfl (by have := HIP.out.2.2; omega) (by decide) (Nat.zero_le _) ?_); intro w9 hown hgrow; have HX9 := Lib.hid (HX8.out.next 6 _ hgrow); obtain ⟨⟨u7, c7⟩, z7⟩ := HX9.out.cell 7 (by decide); clear hown hgrow
    | (at_make; refine wpList_make_full _ rfl _ _ 150 rfl 0 293 iD zD iD.size Tryz.underlying150 HID.out.1 HID.out.2.1 rfl .i64 .i64 _ _ 6 rfl rfl rfl rfl (by have := HID.out.2.2; omega) (by decide) (Nat.zero_le _) ?_); intro w10 hown hgrow; have HX10 := Lib.hid (HX9.out.next 7 _ hgrow); obtain ⟨⟨u8, c8⟩, z8⟩ := HX10.out.cell 8 (by decide); clear hown hgrow
    | (at_make; refine wpList_make_full _ rfl _ _ 151 rfl 0 295 iM zM iM.size Tryz.underlying151 HIM.out.1 HIM.out.2.1 rfl .i64 .i64 _ _ 8 rfl rfl rfl rfl (by have := HIM.out.2.2; omega) (by decide) (Nat.zero_le _) ?_); intro w11 hown hgrow; have HX11 := Lib.hid (HX10.out.next 8 _ hgrow); obtain ⟨⟨u9, c9⟩, z9⟩ := HX11.out.cell 9 (by decide); clear hown hgrow
    | (at_make; refine wpList_make_full _ rfl _ _ 152 rfl 0 297 iB zB iB.size Tryz.underlying152 HIB.out.1 HIB.out.2.1 rfl .i64 .i64 _ _ 6 rfl rfl rfl rfl (by have := HIB.out.2.2; omega) (by decide) (Nat.zero_le _) ?_); intro w12 hown hgrow; have HX12 := Lib.hid (HX11.out.next 9 _ hgrow); obtain ⟨⟨u10, c10⟩, z10⟩ := HX12.out.cell 10 (by decide); clear hown hgrow
    | (at_make; refine wpList_make_full _ rfl _ _ 153 rfl 0 299 iF zF iF.size Tryz.underlying153 HIF.out.1 HIF.out.2.1 rfl .i64 .i64 _ _ 4 rfl rfl rfl rfl (by have := HIF.out.2.2; omega) (by decide) (Nat.zero_le _) ?_); intro w13 hown hgrow; have HX13 := Lib.hid (HX12.out.next 10 _ hgrow); obtain ⟨⟨u11, c11⟩, z11⟩ := HX13.out.cell 11 (by decide); clear hown hgrow)
  go_ret
  exact ⟨_, rfl, (HZ6.out.trans (HX13.out.bel.mono HZ6.out.size)).setCell HZ6.out.size _⟩
end Go.Proofs.YtncopdhhchmpeaaGreatDoor
namespace Go.Proofs.YtncopdhhchmpeaaGreatDoor
open Go.ChangeShapes Go.WideShapes Go.ChangeAt Go.RowKit
set_option linter.unusedVariables false
set_option linter.unusedSimpArgs false
section
variable {s m d t b f q : Nat} {st : Int}
set_option maxRecDepth 100000 in
set_option maxHeartbeats 2000000 in
theorem slive_judge (w : World) : Calls Tryz.prog 21 #[.pointer (some ⟨s, 0, none⟩), .agg #[.int .i64 12, .int .i64 0, .int .i64 0, .int .i64 0, .int .u32 0]] w fun e w' => e = .returned (.bool true) ∧ Below w.heap.size w w' := by
  go_enter Tryz.func21, Tryz.ntmps21
  go_wp2_with fail
  go_ret
  exact ⟨rfl, (Below.refl _ _).alloc (Nat.le_refl _) _⟩
set_option maxRecDepth 100000 in
set_option maxHeartbeats 4000000 in
theorem slive_dom (k1 k2 k3 k4 : Int) (dp dR n c base : Nat) (th : Nat → Bool) (vr : Nat → Int) (r : Bool) (hr : Hid ((thereB n th k1 && (vr k1.toNat == k2)) = r)) (w : World) (hB : SyB w s m d t b f q st) (hP : w.cell? ⟨d, 0, none⟩ = some (.pointer (some ⟨dp, 0, none⟩))) (hA : ArAt w base dp dR n c th vr) :
    Calls Tryz.prog 21 #[.pointer (some ⟨s, 0, none⟩), .agg #[.int .i64 4, .int .i64 k1, .int .i64 k2, .int .i64 k3, .int .u32 k4]] w fun e w' => e = .returned (.bool r) ∧ Below w.heap.size w w' := by
  have HA := Lib.hid (fun W (hW : Below w.heap.size w W) => alive_is k1 k2 r hr W (hA.below hW))
  have HB := Lib.hid hB
  have HP := Lib.hid hP
  have hdl : d < w.heap.size := cell_lt hP
  clear hA hB hP
  go_enter Tryz.func21, Tryz.ntmps21
  go_upto_region 1 with fail
  generalize hA : World.alloc w _ = wA
  obtain ⟨K, hK⟩ : ∃ K, K = w.heap.size := ⟨_, rfl⟩
  have HBa : Hid (Below w.heap.size w wA) := Lib.hid (by rw [← hA]; exact (Below.refl _ _).alloc (Nat.le_refl _) _)
  have kc0 : wA.cell? ⟨K, 0, none⟩ = some (.int .i64 4) := by rw [← hA, hK]; simp
  have kc1 : wA.cell? ⟨K, 1, none⟩ = some (.int .i64 k1) := by rw [← hA, hK]; simp
  have kc2 : wA.cell? ⟨K, 2, none⟩ = some (.int .i64 k2) := by rw [← hA, hK]; simp
  have sc := ((HB.out.below HBa.out).c1)
  have pc := (HBa.out.cell (p := ⟨d, 0, none⟩) hdl).trans HP.out
  rw [← hK]
  clear hA hK hdl
  go_wp2_with fail
  have HA9 := Lib.hid (fun n => HA.out (wA.drewN n) (below_drewN HBa.out n))
  go_quiet ((go_at_call 67; exact kquiet_left (HA9.out _)))
  go_wp2_with fail
  go_ret
  exact ⟨rfl, below_drewN HBa.out _⟩
end
set_option maxRecDepth 100000 in
set_option maxHeartbeats 2000000 in
theorem script_ok (w : World) : Calls Tryz.prog 11 #[] w fun e w' => ∃ L X x, e = .returned (.tuple #[(.pointer (some ⟨X.s, 0, none⟩)), .pointer (some ⟨x, 0, none⟩)]) ∧ SysNew w w' L X ∧ Hid (L.a.n = 12 ∧ L.b.n = 12 ∧ L.dn = 6 ∧ X.tn = 8 ∧ L.n = 6 ∧ X.fn = 4) ∧ Below w.heap.size w w' := by
  go_enter Tryz.func11, Tryz.ntmps11
  go_wp2_with (first
    | (go_at_call 46; (with_reducible refine (sys_ok 12 12 6 8 6 4 (by decide) (by decide) (by decide) (by decide) (by decide) (by decide) 12 12 6 8 6 4 (Lib.hid (by decide)) _).mono ?_); rintro e w1 ⟨L, X, rfl, hs, hn, hb⟩; have HSy := Lib.hid hs; have HN := Lib.hid hn.out; have HB1 := Lib.hid hb; clear hs hn hb)
    | (go_at_call 47; (with_reducible refine (rs8_is _).mono ?_); rintro e w2 ⟨x, rfl, hb⟩; have HB2 := Lib.hid hb; clear hb))
  go_ret2
  exact ⟨L, X, x, rfl, HSy.out.below HB2.out, HN, HB1.out.trans (HB2.out.mono HB1.out.size)⟩
set_option maxRecDepth 100000 in
set_option maxHeartbeats 2000000 in
theorem first21_is (w : World) : Calls Tryz.prog 10 #[] w fun e w' => e = .returned (.bool true) ∧ Below w.heap.size w w' := by
  go_enter Tryz.func10, Tryz.ntmps10
  go_wp2_with (first
    | (go_at_call 11; (with_reducible refine (script_ok _).mono ?_); rintro e w1 ⟨L, X, x, rfl, hs, -, hb⟩; have HB1 := Lib.hid hb; have HLv := Lib.hid (slive_dom (s := X.s) 0 0 0 0 L.dp L.dR L.dn L.dc L.dB st0.dt st0.dv false (Lib.hid (by simp [thereB, st0])) w1 hs.b hs.k.d.pl.f0 hs.k.d.pl.ar); clear hs hb)
    | (go_at_call 21; (with_reducible refine HLv.out.mono ?_); rintro e w2 ⟨rfl, hb⟩; have HB2 := Lib.hid (HB1.out.trans (hb.mono HB1.out.size)); clear hb)
    | (go_at_call 21; (with_reducible refine (slive_judge _).mono ?_); rintro e w3 ⟨rfl, hb⟩; have HB3 := Lib.hid (HB2.out.trans (hb.mono HB2.out.size)); clear hb))
  go_ret
  exact ⟨rfl, HB3.out⟩
end Go.Proofs.YtncopdhhchmpeaaGreatDoor
