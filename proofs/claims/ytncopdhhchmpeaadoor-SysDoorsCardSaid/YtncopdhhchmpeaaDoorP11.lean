/-
  Ya, Yb, Yc, Yd, Gq as one.
-/
import Derived.Test.YtncopdhhchmpeaaDoorMt
import Derived.Test.YtncopdhhchmpeaaDoorMk
import Derived.Test.YtncopdhhchmpeaaDoorP10
import Derived.Test.YtncopdhhchmpeaaDoorP9
import Derived.Test.YtncopdhhchmpeaaDoorOpen
import Derived.BigQuiet
namespace Go.Proofs.YtncopdhhchmpeaaDoor
open Go.ChangeShapes Go.WideShapes Go.ChangeAt Go.RowKit
set_option linter.unusedVariables false
set_option linter.unusedSimpArgs false
/-- What a system's own cells hold: pointers to all its parts, no words, its steps. -/
structure SyB (w : World) (s m d t b f q : Nat) (st : Int) : Prop where
  lt : s < w.heap.size
  c0 : w.cell? ⟨s, 0, none⟩ = some (.pointer (some ⟨m, 0, none⟩))
  c1 : w.cell? ⟨s, 1, none⟩ = some (.pointer (some ⟨d, 0, none⟩))
  c2 : w.cell? ⟨s, 2, none⟩ = some (.pointer (some ⟨t, 0, none⟩))
  c3 : w.cell? ⟨s, 3, none⟩ = some (.pointer (some ⟨b, 0, none⟩))
  c4 : w.cell? ⟨s, 4, none⟩ = some (.pointer (some ⟨f, 0, none⟩))
  c5 : w.cell? ⟨s, 5, none⟩ = some (.pointer (some ⟨q, 0, none⟩))
  c8 : w.cell? ⟨s, 8, none⟩ = some (.int .i64 st)
theorem SyB.same {w w' : World} {s m d t b f q : Nat} {st : Int} (h : SyB w s m d t b f q st) (hs : w.heap.size ≤ w'.heap.size) (hb : w'.heap[s]? = w.heap[s]?) : SyB w' s m d t b f q st :=
  ⟨Nat.lt_of_lt_of_le h.lt hs, (World.cell?_of_block (a := ⟨s, 0, none⟩) hb).trans h.c0, (World.cell?_of_block (a := ⟨s, 1, none⟩) hb).trans h.c1, (World.cell?_of_block (a := ⟨s, 2, none⟩) hb).trans h.c2, (World.cell?_of_block (a := ⟨s, 3, none⟩) hb).trans h.c3, (World.cell?_of_block (a := ⟨s, 4, none⟩) hb).trans h.c4, (World.cell?_of_block (a := ⟨s, 5, none⟩) hb).trans h.c5, (World.cell?_of_block (a := ⟨s, 8, none⟩) hb).trans h.c8⟩
theorem SyB.below {w w' : World} {s m d t b f q : Nat} {st : Int} (h : SyB w s m d t b f q st) (hb : Below w.heap.size w w') : SyB w' s m d t b f q st := h.same hb.size (hb.block s h.lt)
/-- Where the meters, the factories, the queue and the system's own cells lie. -/
structure SLoc where
  s : Nat
  q : Nat
  tB : Nat
  tP : Nat
  tp : Nat
  tR : Nat
  tG : Nat
  tn : Nat
  fB : Nat
  fP : Nat
  fp : Nat
  fR : Nat
  fG : Nat
  fn : Nat
/-- A system, new: nothing is there. -/
structure SysNew (w0 w : World) (L : BLoc) (X : SLoc) : Prop where
  k : BW w0 w L st0
  z : L.z = 16
  t : MtAt w X.tB X.tP X.tp X.tR X.tG X.tn X.tn (fun _ => false) (fun _ => 0) (fun _ => 0) (fun _ => 0)
  f : PlAt 159 31 w X.fB X.fP X.fp X.fR X.fG X.fn X.fn (fun _ => false) (fun _ => 0) (fun _ b => zk b)
  b : SyB w X.s L.mb L.dP X.tP L.P X.fP X.q 0
  q0 : w.cell? ⟨X.q, 0, none⟩ = some (.slice none 0 0)
  q1 : w.cell? ⟨X.q, 1, none⟩ = some (.map none)
  ql : X.q < w.heap.size
  lo : L.T ≤ X.s ∧ L.T ≤ X.q ∧ X.s ≠ X.q ∧ L.T ≤ X.fB
theorem SysNew.below {w0 w w' : World} {L : BLoc} {X : SLoc} (h : SysNew w0 w L X) (hb : Below w.heap.size w w') : SysNew w0 w' L X :=
  ⟨h.k.below hb, h.z, h.t.below hb, h.f.below hb, h.b.below hb, (hb.cell (p := ⟨X.q, 0, none⟩) h.ql).trans h.q0, (hb.cell (p := ⟨X.q, 1, none⟩) h.ql).trans h.q1, Nat.lt_of_lt_of_le h.ql hb.size, h.lo⟩
theorem MMD.base {w00 w0 w : World} {L : BLoc} {D : BSt} (h : MMD w0 w L D) (hb : Below w00.heap.size w00 w0) : MMD w00 w L D :=
  ⟨⟨hb.trans (h.sv.bel.mono hb.size), Nat.le_trans hb.size h.sv.wb, h.sv.st⟩, h.lo, Nat.le_trans hb.size h.n0, h.nN, h.m0, h.m1, h.ml, h.mn, h.mo, h.ca, h.ok⟩
set_option maxRecDepth 100000 in
set_option maxHeartbeats 4000000 in
theorem sys_ok (n0 n1 n2 n3 n4 n5 : Nat) (h0 : 1 ≤ n0 ∧ n0 ≤ 256) (h1 : 1 ≤ n1 ∧ n1 ≤ 256) (h2 : 1 ≤ n2 ∧ n2 ≤ 256) (h3 : 1 ≤ n3 ∧ n3 ≤ 256) (h4 : 1 ≤ n4 ∧ n4 ≤ 256) (h5 : 1 ≤ n5 ∧ n5 ≤ 256) (x0 x1 x2 x3 x4 x5 : Int) (hx : Hid (x0 = n0 ∧ x1 = n1 ∧ x2 = n2 ∧ x3 = n3 ∧ x4 = n4 ∧ x5 = n5)) (w : World) :
    Calls Tryd.prog 6 #[.agg #[.int .i64 x0, .int .i64 x1, .int .i64 x2, .int .i64 x3, .int .i64 x4, .int .i64 x5]] w fun e w' => ∃ L X, e = .returned (.tuple #[(.pointer (some ⟨X.s, 0, none⟩)), .nilIface]) ∧ SysNew w w' L X ∧ Hid (L.a.n = n0 ∧ L.b.n = n1 ∧ L.dn = n2 ∧ X.tn = n3 ∧ L.n = n4 ∧ X.fn = n5) ∧ Below w.heap.size w w' := by
  have HX0 := Lib.hid hx.out.1
  have HX1 := Lib.hid hx.out.2.1
  have HX2 := Lib.hid hx.out.2.2.1
  have HX3 := Lib.hid hx.out.2.2.2.1
  have HX4 := Lib.hid hx.out.2.2.2.2.1
  have HX5 := Lib.hid hx.out.2.2.2.2.2
  go_enter Tryd.func6, Tryd.ntmps6; go_upto_region 1 with fail; generalize hA : World.alloc w _ = wb; obtain ⟨Z, hZ⟩ : ∃ Z, Z = w.heap.size := ⟨_, rfl⟩; have HBb : Hid (Below w.heap.size w wb) := Lib.hid (by rw [← hA]; exact (Below.refl _ _).alloc (Nat.le_refl _) _); have HZl : Hid (Z < wb.heap.size) := Lib.hid (by rw [← hA, hZ]; simp); have c0 : wb.cell? ⟨Z, 0, none⟩ = some (.int .i64 x0) := (by rw [← hA, hZ]; simp); have c1 : wb.cell? ⟨Z, 1, none⟩ = some (.int .i64 x1) := (by rw [← hA, hZ]; simp); have c2 : wb.cell? ⟨Z, 2, none⟩ = some (.int .i64 x2) := (by rw [← hA, hZ]; simp); have c3 : wb.cell? ⟨Z, 3, none⟩ = some (.int .i64 x3) := (by rw [← hA, hZ]; simp); have c4 : wb.cell? ⟨Z, 4, none⟩ = some (.int .i64 x4) := (by rw [← hA, hZ]; simp); have c5 : wb.cell? ⟨Z, 5, none⟩ = some (.int .i64 x5) := (by rw [← hA, hZ]; simp); have HCk : Hid (∀ W, Below wb.heap.size wb W → W.cell? ⟨Z, 2, none⟩ = some (.int .i64 x2) ∧ W.cell? ⟨Z, 3, none⟩ = some (.int .i64 x3) ∧ W.cell? ⟨Z, 4, none⟩ = some (.int .i64 x4) ∧ W.cell? ⟨Z, 5, none⟩ = some (.int .i64 x5)) := Lib.hid (fun W hW => ⟨(hW.cell (p := ⟨Z, 2, none⟩) HZl.out).trans c2, (hW.cell (p := ⟨Z, 3, none⟩) HZl.out).trans c3, (hW.cell (p := ⟨Z, 4, none⟩) HZl.out).trans c4, (hW.cell (p := ⟨Z, 5, none⟩) HZl.out).trans c5⟩); rw [← hZ]; clear hA hZ c2 c3 c4 c5
  go_upto_region 16 with (first
    | (go_at_call 21; (with_reducible refine (mnew_ok x0 x1 16 n0 n1 HX0 HX1 h0.1 h0.2 h1.1 h1.2 (by decide) (by decide) _).mono ?_); rintro e w1 ⟨mb, S, a, b, N, cb, rfl, hm, hn⟩; have HM := Lib.hid hm; have HN := Lib.hid hn.out; have HB1 : Hid (Below wb.heap.size wb w1) := Lib.hid hm.sv.bel; obtain ⟨d2, d3, d4, d5⟩ := HCk.out _ HB1.out; clear hm hn c0 c1)
    | (go_at_call 22; (with_reducible refine (dnew_ok x2 n2 HX2 h2.1 h2.2 _).mono ?_); rintro e w2 ⟨dP, dp, dR, dG, dQ, rfl, hd, hb⟩; have HD := Lib.hid hd; have HB2 := Lib.hid hb; have HB2b := Lib.hid (HB1.out.trans (hb.mono HB1.out.size)); obtain ⟨e2, e3, e4, e5⟩ := HCk.out _ HB2b.out; clear hd hb d2 d3 d4 d5)
    | (go_at_call 23; (with_reducible refine (mtnew_ok x3 n3 HX3 h3.1 h3.2 _).mono ?_); rintro e w3 ⟨tP, tp, tR, tG, rfl, ht, hb⟩; have HT := Lib.hid ht; have HB3 := Lib.hid hb; have HB3b := Lib.hid (HB2b.out.trans (hb.mono HB2b.out.size)); obtain ⟨f2, f3, f4, f5⟩ := HCk.out _ HB3b.out; clear ht hb e2 e3 e4 e5)
    | (go_at_call 24; (with_reducible refine (bknew_ok x4 n4 mb dP HX4 h4.1 h4.2 _).mono ?_); rintro e w4 ⟨P, p, B, A, G1, G2, G3, rfl, hk, hb⟩; have HK := Lib.hid hk; have HB4 := Lib.hid hb; have HB4b := Lib.hid (HB3b.out.trans (hb.mono HB3b.out.size)); obtain ⟨g2, g3, g4, g5⟩ := HCk.out _ HB4b.out; clear hk hb f2 f3 f4 f5)
    | (go_at_call 25; (with_reducible refine (mknew_ok x5 n5 HX5 h5.1 h5.2 _).mono ?_); rintro e w5 ⟨fP, fp, fR, fG, rfl, hf, hb⟩; have HF := Lib.hid hf; have HB5 := Lib.hid hb; have HB5b := Lib.hid (HB4b.out.trans (hb.mono HB4b.out.size)); clear hf hb g2 g3 g4 g5))
  go_wp2_with fail
  go_ret2
  have s2 := HB2.out.size
  have s3 := HB3.out.size
  have s4 := HB4.out.size
  have s5 := HB5.out.size
  have hd := HD.out
  have hk := HK.out
  have hQ := (hd.qs.lt dQ rfl).2
  have b5 : Below w5.heap.size w5 ((w5.alloc (.cells #[.slice none 0 0, .map none] 107 (0, 0))).alloc (.cells #[.pointer (some ⟨mb, 0, none⟩), .pointer (some ⟨dP, 0, none⟩), .pointer (some ⟨tP, 0, none⟩), .pointer (some ⟨P, 0, none⟩), .pointer (some ⟨fP, 0, none⟩), .pointer (some ⟨w5.heap.size, 0, none⟩), .slice none 0 0, .slice none 0 0, .int .i64 0] 40 (0, 0))) := ((Below.refl _ _).alloc (Nat.le_refl _) _).alloc (by simp) _
  have b4 := HB5.out.trans (b5.mono s5)
  have b3 := HB4.out.trans (b4.mono s4)
  have b2 := HB3.out.trans (b3.mono s3)
  have b1 := HB2.out.trans (b2.mono s2)
  have hM0 : MMD w w1 ⟨mb, S, a, b, N, cb, w1.heap.size, dP, dp, dR, dG, dQ, n2, n2, w3.heap.size, P, p, B, A, G1, G2, G3, n4, n4, w4.heap.size, 16⟩ st0 := MMD.base HM.out HBb.out
  refine ⟨⟨mb, S, a, b, N, cb, w1.heap.size, dP, dp, dR, dG, dQ, n2, n2, w3.heap.size, P, p, B, A, G1, G2, G3, n4, n4, w4.heap.size, 16⟩, ⟨w5.heap.size + 1, w5.heap.size, w2.heap.size, tP, tp, tR, tG, n3, w4.heap.size, fP, fp, fR, fG, n5⟩, rfl, ?_, Lib.hid ⟨HN.out.1, HN.out.2, rfl, rfl, rfl, rfl⟩, HBb.out.trans ((HB1.out.trans (b1.mono HB1.out.size)).mono HBb.out.size)⟩
  have e : thN 0 = fun _ => false := by funext i; simp [thN]
  refine ⟨⟨MemAt.below hM0 b1, hd.below b2, ?_, ⟨HM.out.ml, HM.out.ca.cl, HM.out.nN⟩, ⟨Nat.lt_of_lt_of_le hd.pl.pl s3, Nat.lt_of_lt_of_le hd.pl.ar.pl s3, Nat.lt_of_lt_of_le hd.pl.ar.lt.2 s3, Nat.lt_of_lt_of_le hd.pl.gl.2 s3, Nat.lt_of_lt_of_le hQ s3⟩, Nat.le_trans s2 s3, fun i hi => by simp [st0] at hi, Nat.zero_le _, ⟨s4, hk.pl, hk.ar.pl, hk.ar.lt.2, hk.ac.lt.2, hk.t1.lt.2, hk.t2.lt.2, hk.t3.lt.2⟩, b4.size⟩, rfl, HT.out.below b3, HF.out.below b5, ⟨by simp, by simp, by simp, by simp, by simp, by simp, by simp, by simp⟩, by simp, by simp, (by simp; omega), ⟨Nat.le_trans s5 (Nat.le_succ _), s5, Nat.succ_ne_self _, Nat.le_refl _⟩⟩
  show BkAt _ _ _ _ _ _ _ _ _ _ _ _ _ (thN 0) _ _ _ _ _ _ _ _ _ _
  rw [e]
  exact hk.below b4
end Go.Proofs.YtncopdhhchmpeaaDoor
namespace Go.Proofs.YtncopdhhchmpeaaDoor
open Go.ChangeShapes Go.WideShapes Go.ChangeAt Go.RowKit
set_option linter.unusedVariables false
set_option linter.unusedSimpArgs false
def inR (x : Int) : Prop := 1 ≤ x ∧ x ≤ 256
section
variable {A : Nat → Addr}
theorem nnew_no (x : Int) (h : ¬ inR x) (w : World) (hS : Sen A w) : Calls Tryd.prog 68 #[.int .i64 x] w fun e w' => e = .returned (.tuple #[.pointer none, (eV (sA A 2))]) ∧ Below w.heap.size w w' := by
  have hc2 := hS.c2
  have HC := Lib.hid (anew_no x h w _ hc2)
  clear hS hc2
  go_enter Tryd.func68, Tryd.ntmps68
  go_wp2_with (first | (go_at_call 52; (with_reducible refine HC.out.mono ?_); rintro e w1 ⟨rfl, hb⟩))
  go_ret2
  exact ⟨rfl, hb⟩
theorem pnew_no (x : Int) (h : ¬ inR x) (w : World) (hS : Sen A w) : Calls Tryd.prog 69 #[.int .i64 x] w fun e w' => e = .returned (.tuple #[.pointer none, (eV (sA A 2))]) ∧ Below w.heap.size w w' := by
  have hc2 := hS.c2
  have HC := Lib.hid (anew_no x h w _ hc2)
  clear hS hc2
  go_enter Tryd.func69, Tryd.ntmps69
  go_wp2_with (first | (go_at_call 52; (with_reducible refine HC.out.mono ?_); rintro e w1 ⟨rfl, hb⟩))
  go_ret2
  exact ⟨rfl, hb⟩
theorem dnew_no (x : Int) (h : ¬ inR x) (w : World) (hS : Sen A w) : Calls Tryd.prog 22 #[.int .i64 x] w fun e w' => e = .returned (.tuple #[.pointer none, (eV (sA A 2))]) ∧ Below w.heap.size w w' := by
  have hc2 := hS.c2
  have HC := Lib.hid (anew_no x h w _ hc2)
  clear hS hc2
  go_enter Tryd.func22, Tryd.ntmps22
  go_wp2_with (first | (go_at_call 52; (with_reducible refine HC.out.mono ?_); rintro e w1 ⟨rfl, hb⟩))
  go_ret2
  exact ⟨rfl, hb⟩
theorem mtnew_no (x : Int) (h : ¬ inR x) (w : World) (hS : Sen A w) : Calls Tryd.prog 23 #[.int .i64 x] w fun e w' => e = .returned (.tuple #[.pointer none, (eV (sA A 2))]) ∧ Below w.heap.size w w' := by
  have hc2 := hS.c2
  have HC := Lib.hid (anew_no x h w _ hc2)
  clear hS hc2
  go_enter Tryd.func23, Tryd.ntmps23
  go_wp2_with (first | (go_at_call 52; (with_reducible refine HC.out.mono ?_); rintro e w1 ⟨rfl, hb⟩))
  go_ret2
  exact ⟨rfl, hb⟩
theorem mknew_no (x : Int) (h : ¬ inR x) (w : World) (hS : Sen A w) : Calls Tryd.prog 25 #[.int .i64 x] w fun e w' => e = .returned (.tuple #[.pointer none, (eV (sA A 2))]) ∧ Below w.heap.size w w' := by
  have hc2 := hS.c2
  have HC := Lib.hid (anew_no x h w _ hc2)
  clear hS hc2
  go_enter Tryd.func25, Tryd.ntmps25
  go_wp2_with (first | (go_at_call 52; (with_reducible refine HC.out.mono ?_); rintro e w1 ⟨rfl, hb⟩))
  go_ret2
  exact ⟨rfl, hb⟩
theorem bknew_no (x : Int) (h : ¬ inR x) (m d : Value) (w : World) (hS : Sen A w) : Calls Tryd.prog 24 #[.int .i64 x, m, d] w fun e w' => e = .returned (.tuple #[.pointer none, (eV (sA A 2))]) ∧ Below w.heap.size w w' := by
  have hc2 := hS.c2
  have HC := Lib.hid (anew_no x h w _ hc2)
  clear hS hc2
  go_enter Tryd.func24, Tryd.ntmps24
  go_wp2_with (first | (go_at_call 52; (with_reducible refine HC.out.mono ?_); rintro e w1 ⟨rfl, hb⟩))
  go_ret2
  exact ⟨rfl, hb⟩
theorem nat_of {x : Int} (h : inR x) : ∃ n : Nat, x = n ∧ 1 ≤ n ∧ n ≤ 256 := ⟨x.toNat, by have := h.1; omega, by have := h.1; omega, by have := h.2; omega⟩
theorem snew_no (x y : Int) (h : ¬ (inR x ∧ inR y)) (w : World) (hS : Sen A w) : Calls Tryd.prog 50 #[.int .i64 x, .int .i64 y] w fun e w' => e = .returned (.tuple #[.pointer none, (eV (sA A 2))]) ∧ Below w.heap.size w w' := by
  have HS := Lib.hid hS
  by_cases hx : inR x
  · have hy : ¬ inR y := fun e => h ⟨hx, e⟩
    obtain ⟨n, rfl, h1, h2⟩ := nat_of hx
    have HN := Lib.hid (nnew_ok (n : Int) n (Lib.hid rfl) h1 h2 w)
    clear hS h hx
    go_enter Tryd.func50, Tryd.ntmps50
    go_wp2_with (first
      | (go_at_call 68; (with_reducible refine HN.out.mono ?_); rintro e w1 ⟨P, p, B, G, rfl, -, hb⟩; have HB1 := Lib.hid hb; clear hb)
      | (go_at_call 69; (with_reducible refine (pnew_no y hy _ (HS.out.below HB1.out)).mono ?_); rintro e w2 ⟨rfl, hb⟩; have HB2 := Lib.hid (HB1.out.trans (hb.mono HB1.out.size)); clear hb))
    go_ret2
    exact ⟨rfl, HB2.out⟩
  · have HN := Lib.hid (nnew_no x hx w hS)
    clear hS h
    go_enter Tryd.func50, Tryd.ntmps50
    go_wp2_with (first
      | (go_at_call 68; (with_reducible refine HN.out.mono ?_); rintro e w1 ⟨rfl, hb⟩; have HB1 := Lib.hid hb; clear hb))
    go_ret2
    exact ⟨rfl, HB1.out⟩
theorem mnew_no (x y : Int) (h : ¬ (inR x ∧ inR y)) (w : World) (hS : Sen A w) : Calls Tryd.prog 21 #[.int .i64 x, .int .i64 y, .int .i64 16] w fun e w' => e = .returned (.tuple #[.pointer none, (eV (sA A 2))]) ∧ Below w.heap.size w w' := by
  have HN := Lib.hid (snew_no x y h w hS)
  clear hS h
  go_enter Tryd.func21, Tryd.ntmps21
  go_wp2_with (first
    | (go_at_call 50; (with_reducible refine HN.out.mono ?_); rintro e w1 ⟨rfl, hb⟩; have HB1 := Lib.hid hb; clear hb))
  go_ret2
  exact ⟨rfl, HB1.out⟩
end
end Go.Proofs.YtncopdhhchmpeaaDoor
namespace Go.Proofs.YtncopdhhchmpeaaDoor
open Go.ChangeShapes Go.WideShapes Go.ChangeAt Go.RowKit
set_option linter.unusedVariables false
set_option linter.unusedSimpArgs false
set_option maxRecDepth 100000 in
set_option maxHeartbeats 8000000 in
theorem sys_no {A : Nat → Addr} (x0 x1 x2 x3 x4 x5 : Int) (h : ¬ ((inR x0 ∧ inR x1) ∧ inR x2 ∧ inR x3 ∧ inR x4 ∧ inR x5)) (w : World) (hS : Sen A w) :
    Calls Tryd.prog 6 #[.agg #[.int .i64 x0, .int .i64 x1, .int .i64 x2, .int .i64 x3, .int .i64 x4, .int .i64 x5]] w fun e w' => e = .returned (.tuple #[.pointer none, (eV (sA A 2))]) ∧ Below w.heap.size w w' := by
  have HS := Lib.hid hS
  clear hS
  by_cases c0 : inR x0 ∧ inR x1
  case neg =>
    clear h
    have HNo : Hid (¬ (inR x0 ∧ inR x1)) := Lib.hid c0
    clear c0
    go_enter Tryd.func6, Tryd.ntmps6; go_upto_region 1 with fail; generalize hA : World.alloc w _ = wb; obtain ⟨Z, hZ⟩ : ∃ Z, Z = w.heap.size := ⟨_, rfl⟩; have HBb : Hid (Below w.heap.size w wb) := Lib.hid (by rw [← hA]; exact (Below.refl _ _).alloc (Nat.le_refl _) _); have HZl : Hid (Z < wb.heap.size) := Lib.hid (by rw [← hA, hZ]; simp); have c0 : wb.cell? ⟨Z, 0, none⟩ = some (.int .i64 x0) := (by rw [← hA, hZ]; simp); have c1 : wb.cell? ⟨Z, 1, none⟩ = some (.int .i64 x1) := (by rw [← hA, hZ]; simp); have c2 : wb.cell? ⟨Z, 2, none⟩ = some (.int .i64 x2) := (by rw [← hA, hZ]; simp); have c3 : wb.cell? ⟨Z, 3, none⟩ = some (.int .i64 x3) := (by rw [← hA, hZ]; simp); have c4 : wb.cell? ⟨Z, 4, none⟩ = some (.int .i64 x4) := (by rw [← hA, hZ]; simp); have c5 : wb.cell? ⟨Z, 5, none⟩ = some (.int .i64 x5) := (by rw [← hA, hZ]; simp); have HCk : Hid (∀ W, Below wb.heap.size wb W → W.cell? ⟨Z, 2, none⟩ = some (.int .i64 x2) ∧ W.cell? ⟨Z, 3, none⟩ = some (.int .i64 x3) ∧ W.cell? ⟨Z, 4, none⟩ = some (.int .i64 x4) ∧ W.cell? ⟨Z, 5, none⟩ = some (.int .i64 x5)) := Lib.hid (fun W hW => ⟨(hW.cell (p := ⟨Z, 2, none⟩) HZl.out).trans c2, (hW.cell (p := ⟨Z, 3, none⟩) HZl.out).trans c3, (hW.cell (p := ⟨Z, 4, none⟩) HZl.out).trans c4, (hW.cell (p := ⟨Z, 5, none⟩) HZl.out).trans c5⟩); rw [← hZ]; clear hA hZ c2 c3 c4 c5
    go_wp2_with (first
      | (go_at_call 21; (with_reducible refine (mnew_no x0 x1 HNo.out _ (HS.out.below HBb.out)).mono ?_); rintro e w1 ⟨rfl, hb⟩; have HB1 := Lib.hid (HBb.out.trans (hb.mono HBb.out.size)); clear hb))
    go_ret2
    exact ⟨rfl, HB1.out⟩
  obtain ⟨n0, r0, h0⟩ := nat_of c0.1
  obtain ⟨n1, r1, h1⟩ := nat_of c0.2
  have HX0 := Lib.hid r0
  have HX1 := Lib.hid r1
  by_cases c2 : inR x2
  case neg =>
    have HNo : Hid (¬ inR x2) := Lib.hid c2
    clear h c0 r0 r1 c2
    go_enter Tryd.func6, Tryd.ntmps6; go_upto_region 1 with fail; generalize hA : World.alloc w _ = wb; obtain ⟨Z, hZ⟩ : ∃ Z, Z = w.heap.size := ⟨_, rfl⟩; have HBb : Hid (Below w.heap.size w wb) := Lib.hid (by rw [← hA]; exact (Below.refl _ _).alloc (Nat.le_refl _) _); have HZl : Hid (Z < wb.heap.size) := Lib.hid (by rw [← hA, hZ]; simp); have c0 : wb.cell? ⟨Z, 0, none⟩ = some (.int .i64 x0) := (by rw [← hA, hZ]; simp); have c1 : wb.cell? ⟨Z, 1, none⟩ = some (.int .i64 x1) := (by rw [← hA, hZ]; simp); have c2 : wb.cell? ⟨Z, 2, none⟩ = some (.int .i64 x2) := (by rw [← hA, hZ]; simp); have c3 : wb.cell? ⟨Z, 3, none⟩ = some (.int .i64 x3) := (by rw [← hA, hZ]; simp); have c4 : wb.cell? ⟨Z, 4, none⟩ = some (.int .i64 x4) := (by rw [← hA, hZ]; simp); have c5 : wb.cell? ⟨Z, 5, none⟩ = some (.int .i64 x5) := (by rw [← hA, hZ]; simp); have HCk : Hid (∀ W, Below wb.heap.size wb W → W.cell? ⟨Z, 2, none⟩ = some (.int .i64 x2) ∧ W.cell? ⟨Z, 3, none⟩ = some (.int .i64 x3) ∧ W.cell? ⟨Z, 4, none⟩ = some (.int .i64 x4) ∧ W.cell? ⟨Z, 5, none⟩ = some (.int .i64 x5)) := Lib.hid (fun W hW => ⟨(hW.cell (p := ⟨Z, 2, none⟩) HZl.out).trans c2, (hW.cell (p := ⟨Z, 3, none⟩) HZl.out).trans c3, (hW.cell (p := ⟨Z, 4, none⟩) HZl.out).trans c4, (hW.cell (p := ⟨Z, 5, none⟩) HZl.out).trans c5⟩); rw [← hZ]; clear hA hZ c2 c3 c4 c5
    go_wp2_with (first
      | (go_at_call 21; (with_reducible refine (mnew_ok x0 x1 16 n0 n1 HX0 HX1 h0.1 h0.2 h1.1 h1.2 (by decide) (by decide) _).mono ?_); rintro e w1 ⟨mb, S, a, b, N, cb, rfl, hm, hn⟩; have HM := Lib.hid hm; have HN := Lib.hid hn.out; have HB1 : Hid (Below wb.heap.size wb w1) := Lib.hid hm.sv.bel; obtain ⟨d2, d3, d4, d5⟩ := HCk.out _ HB1.out; clear hm hn c0 c1)
      | (go_at_call 22; (with_reducible refine (dnew_no x2 HNo.out _ ((HS.out.below HBb.out).below HB1.out)).mono ?_); rintro e w2 ⟨rfl, hb⟩; have HB2 := Lib.hid (HB1.out.trans (hb.mono HB1.out.size)); clear hb))
    go_ret2
    exact ⟨rfl, HBb.out.trans (HB2.out.mono HBb.out.size)⟩
  obtain ⟨n2, r2, h2⟩ := nat_of c2
  have HX2 := Lib.hid r2
  by_cases c3 : inR x3
  case neg =>
    have HNo : Hid (¬ inR x3) := Lib.hid c3
    clear h c0 r0 r1 c2 r2 c3
    go_enter Tryd.func6, Tryd.ntmps6; go_upto_region 1 with fail; generalize hA : World.alloc w _ = wb; obtain ⟨Z, hZ⟩ : ∃ Z, Z = w.heap.size := ⟨_, rfl⟩; have HBb : Hid (Below w.heap.size w wb) := Lib.hid (by rw [← hA]; exact (Below.refl _ _).alloc (Nat.le_refl _) _); have HZl : Hid (Z < wb.heap.size) := Lib.hid (by rw [← hA, hZ]; simp); have c0 : wb.cell? ⟨Z, 0, none⟩ = some (.int .i64 x0) := (by rw [← hA, hZ]; simp); have c1 : wb.cell? ⟨Z, 1, none⟩ = some (.int .i64 x1) := (by rw [← hA, hZ]; simp); have c2 : wb.cell? ⟨Z, 2, none⟩ = some (.int .i64 x2) := (by rw [← hA, hZ]; simp); have c3 : wb.cell? ⟨Z, 3, none⟩ = some (.int .i64 x3) := (by rw [← hA, hZ]; simp); have c4 : wb.cell? ⟨Z, 4, none⟩ = some (.int .i64 x4) := (by rw [← hA, hZ]; simp); have c5 : wb.cell? ⟨Z, 5, none⟩ = some (.int .i64 x5) := (by rw [← hA, hZ]; simp); have HCk : Hid (∀ W, Below wb.heap.size wb W → W.cell? ⟨Z, 2, none⟩ = some (.int .i64 x2) ∧ W.cell? ⟨Z, 3, none⟩ = some (.int .i64 x3) ∧ W.cell? ⟨Z, 4, none⟩ = some (.int .i64 x4) ∧ W.cell? ⟨Z, 5, none⟩ = some (.int .i64 x5)) := Lib.hid (fun W hW => ⟨(hW.cell (p := ⟨Z, 2, none⟩) HZl.out).trans c2, (hW.cell (p := ⟨Z, 3, none⟩) HZl.out).trans c3, (hW.cell (p := ⟨Z, 4, none⟩) HZl.out).trans c4, (hW.cell (p := ⟨Z, 5, none⟩) HZl.out).trans c5⟩); rw [← hZ]; clear hA hZ c2 c3 c4 c5
    go_wp2_with (first
      | (go_at_call 21; (with_reducible refine (mnew_ok x0 x1 16 n0 n1 HX0 HX1 h0.1 h0.2 h1.1 h1.2 (by decide) (by decide) _).mono ?_); rintro e w1 ⟨mb, S, a, b, N, cb, rfl, hm, hn⟩; have HM := Lib.hid hm; have HN := Lib.hid hn.out; have HB1 : Hid (Below wb.heap.size wb w1) := Lib.hid hm.sv.bel; obtain ⟨d2, d3, d4, d5⟩ := HCk.out _ HB1.out; clear hm hn c0 c1)
      | (go_at_call 22; (with_reducible refine (dnew_ok x2 n2 HX2 h2.1 h2.2 _).mono ?_); rintro e w2 ⟨dP, dp, dR, dG, dQ, rfl, hd, hb⟩; have HD := Lib.hid hd; have HB2 := Lib.hid hb; have HB2b := Lib.hid (HB1.out.trans (hb.mono HB1.out.size)); obtain ⟨e2, e3, e4, e5⟩ := HCk.out _ HB2b.out; clear hd hb d2 d3 d4 d5)
      | (go_at_call 23; (with_reducible refine (mtnew_no x3 HNo.out _ ((HS.out.below HBb.out).below HB2b.out)).mono ?_); rintro e w3 ⟨rfl, hb⟩; have HB3 := Lib.hid (HB2b.out.trans (hb.mono HB2b.out.size)); clear hb))
    go_ret2
    exact ⟨rfl, HBb.out.trans (HB3.out.mono HBb.out.size)⟩
  obtain ⟨n3, r3, h3⟩ := nat_of c3
  have HX3 := Lib.hid r3
  by_cases c4 : inR x4
  case neg =>
    have HNo : Hid (¬ inR x4) := Lib.hid c4
    clear h c0 r0 r1 c2 r2 c3 r3 c4
    go_enter Tryd.func6, Tryd.ntmps6; go_upto_region 1 with fail; generalize hA : World.alloc w _ = wb; obtain ⟨Z, hZ⟩ : ∃ Z, Z = w.heap.size := ⟨_, rfl⟩; have HBb : Hid (Below w.heap.size w wb) := Lib.hid (by rw [← hA]; exact (Below.refl _ _).alloc (Nat.le_refl _) _); have HZl : Hid (Z < wb.heap.size) := Lib.hid (by rw [← hA, hZ]; simp); have c0 : wb.cell? ⟨Z, 0, none⟩ = some (.int .i64 x0) := (by rw [← hA, hZ]; simp); have c1 : wb.cell? ⟨Z, 1, none⟩ = some (.int .i64 x1) := (by rw [← hA, hZ]; simp); have c2 : wb.cell? ⟨Z, 2, none⟩ = some (.int .i64 x2) := (by rw [← hA, hZ]; simp); have c3 : wb.cell? ⟨Z, 3, none⟩ = some (.int .i64 x3) := (by rw [← hA, hZ]; simp); have c4 : wb.cell? ⟨Z, 4, none⟩ = some (.int .i64 x4) := (by rw [← hA, hZ]; simp); have c5 : wb.cell? ⟨Z, 5, none⟩ = some (.int .i64 x5) := (by rw [← hA, hZ]; simp); have HCk : Hid (∀ W, Below wb.heap.size wb W → W.cell? ⟨Z, 2, none⟩ = some (.int .i64 x2) ∧ W.cell? ⟨Z, 3, none⟩ = some (.int .i64 x3) ∧ W.cell? ⟨Z, 4, none⟩ = some (.int .i64 x4) ∧ W.cell? ⟨Z, 5, none⟩ = some (.int .i64 x5)) := Lib.hid (fun W hW => ⟨(hW.cell (p := ⟨Z, 2, none⟩) HZl.out).trans c2, (hW.cell (p := ⟨Z, 3, none⟩) HZl.out).trans c3, (hW.cell (p := ⟨Z, 4, none⟩) HZl.out).trans c4, (hW.cell (p := ⟨Z, 5, none⟩) HZl.out).trans c5⟩); rw [← hZ]; clear hA hZ c2 c3 c4 c5
    go_wp2_with (first
      | (go_at_call 21; (with_reducible refine (mnew_ok x0 x1 16 n0 n1 HX0 HX1 h0.1 h0.2 h1.1 h1.2 (by decide) (by decide) _).mono ?_); rintro e w1 ⟨mb, S, a, b, N, cb, rfl, hm, hn⟩; have HM := Lib.hid hm; have HN := Lib.hid hn.out; have HB1 : Hid (Below wb.heap.size wb w1) := Lib.hid hm.sv.bel; obtain ⟨d2, d3, d4, d5⟩ := HCk.out _ HB1.out; clear hm hn c0 c1)
      | (go_at_call 22; (with_reducible refine (dnew_ok x2 n2 HX2 h2.1 h2.2 _).mono ?_); rintro e w2 ⟨dP, dp, dR, dG, dQ, rfl, hd, hb⟩; have HD := Lib.hid hd; have HB2 := Lib.hid hb; have HB2b := Lib.hid (HB1.out.trans (hb.mono HB1.out.size)); obtain ⟨e2, e3, e4, e5⟩ := HCk.out _ HB2b.out; clear hd hb d2 d3 d4 d5)
      | (go_at_call 23; (with_reducible refine (mtnew_ok x3 n3 HX3 h3.1 h3.2 _).mono ?_); rintro e w3 ⟨tP, tp, tR, tG, rfl, ht, hb⟩; have HT := Lib.hid ht; have HB3 := Lib.hid hb; have HB3b := Lib.hid (HB2b.out.trans (hb.mono HB2b.out.size)); obtain ⟨f2, f3, f4, f5⟩ := HCk.out _ HB3b.out; clear ht hb e2 e3 e4 e5)
      | (go_at_call 24; (with_reducible refine (bknew_no x4 HNo.out _ _ _ ((HS.out.below HBb.out).below HB3b.out)).mono ?_); rintro e w4 ⟨rfl, hb⟩; have HB4 := Lib.hid (HB3b.out.trans (hb.mono HB3b.out.size)); clear hb))
    go_ret2
    exact ⟨rfl, HBb.out.trans (HB4.out.mono HBb.out.size)⟩
  obtain ⟨n4, r4, h4⟩ := nat_of c4
  have HX4 := Lib.hid r4
  have HNo : Hid (¬ inR x5) := Lib.hid (fun c5 => h ⟨c0, c2, c3, c4, c5⟩)
  clear h c0 r0 r1 c2 r2 c3 r3 c4 r4
  go_enter Tryd.func6, Tryd.ntmps6; go_upto_region 1 with fail; generalize hA : World.alloc w _ = wb; obtain ⟨Z, hZ⟩ : ∃ Z, Z = w.heap.size := ⟨_, rfl⟩; have HBb : Hid (Below w.heap.size w wb) := Lib.hid (by rw [← hA]; exact (Below.refl _ _).alloc (Nat.le_refl _) _); have HZl : Hid (Z < wb.heap.size) := Lib.hid (by rw [← hA, hZ]; simp); have c0 : wb.cell? ⟨Z, 0, none⟩ = some (.int .i64 x0) := (by rw [← hA, hZ]; simp); have c1 : wb.cell? ⟨Z, 1, none⟩ = some (.int .i64 x1) := (by rw [← hA, hZ]; simp); have c2 : wb.cell? ⟨Z, 2, none⟩ = some (.int .i64 x2) := (by rw [← hA, hZ]; simp); have c3 : wb.cell? ⟨Z, 3, none⟩ = some (.int .i64 x3) := (by rw [← hA, hZ]; simp); have c4 : wb.cell? ⟨Z, 4, none⟩ = some (.int .i64 x4) := (by rw [← hA, hZ]; simp); have c5 : wb.cell? ⟨Z, 5, none⟩ = some (.int .i64 x5) := (by rw [← hA, hZ]; simp); have HCk : Hid (∀ W, Below wb.heap.size wb W → W.cell? ⟨Z, 2, none⟩ = some (.int .i64 x2) ∧ W.cell? ⟨Z, 3, none⟩ = some (.int .i64 x3) ∧ W.cell? ⟨Z, 4, none⟩ = some (.int .i64 x4) ∧ W.cell? ⟨Z, 5, none⟩ = some (.int .i64 x5)) := Lib.hid (fun W hW => ⟨(hW.cell (p := ⟨Z, 2, none⟩) HZl.out).trans c2, (hW.cell (p := ⟨Z, 3, none⟩) HZl.out).trans c3, (hW.cell (p := ⟨Z, 4, none⟩) HZl.out).trans c4, (hW.cell (p := ⟨Z, 5, none⟩) HZl.out).trans c5⟩); rw [← hZ]; clear hA hZ c2 c3 c4 c5
  go_wp2_with (first
    | (go_at_call 21; (with_reducible refine (mnew_ok x0 x1 16 n0 n1 HX0 HX1 h0.1 h0.2 h1.1 h1.2 (by decide) (by decide) _).mono ?_); rintro e w1 ⟨mb, S, a, b, N, cb, rfl, hm, hn⟩; have HM := Lib.hid hm; have HN := Lib.hid hn.out; have HB1 : Hid (Below wb.heap.size wb w1) := Lib.hid hm.sv.bel; obtain ⟨d2, d3, d4, d5⟩ := HCk.out _ HB1.out; clear hm hn c0 c1)
    | (go_at_call 22; (with_reducible refine (dnew_ok x2 n2 HX2 h2.1 h2.2 _).mono ?_); rintro e w2 ⟨dP, dp, dR, dG, dQ, rfl, hd, hb⟩; have HD := Lib.hid hd; have HB2 := Lib.hid hb; have HB2b := Lib.hid (HB1.out.trans (hb.mono HB1.out.size)); obtain ⟨e2, e3, e4, e5⟩ := HCk.out _ HB2b.out; clear hd hb d2 d3 d4 d5)
    | (go_at_call 23; (with_reducible refine (mtnew_ok x3 n3 HX3 h3.1 h3.2 _).mono ?_); rintro e w3 ⟨tP, tp, tR, tG, rfl, ht, hb⟩; have HT := Lib.hid ht; have HB3 := Lib.hid hb; have HB3b := Lib.hid (HB2b.out.trans (hb.mono HB2b.out.size)); obtain ⟨f2, f3, f4, f5⟩ := HCk.out _ HB3b.out; clear ht hb e2 e3 e4 e5)
    | (go_at_call 24; (with_reducible refine (bknew_ok x4 n4 mb dP HX4 h4.1 h4.2 _).mono ?_); rintro e w4 ⟨P, p, B, A, G1, G2, G3, rfl, hk, hb⟩; have HK := Lib.hid hk; have HB4 := Lib.hid hb; have HB4b := Lib.hid (HB3b.out.trans (hb.mono HB3b.out.size)); obtain ⟨g2, g3, g4, g5⟩ := HCk.out _ HB4b.out; clear hk hb f2 f3 f4 f5)
    | (go_at_call 25; (with_reducible refine (mknew_no x5 HNo.out _ ((HS.out.below HBb.out).below HB4b.out)).mono ?_); rintro e w5 ⟨rfl, hb⟩; have HB5 := Lib.hid (HB4b.out.trans (hb.mono HB4b.out.size)); clear hb))
  go_ret2
  exact ⟨rfl, HBb.out.trans (HB5.out.mono HBb.out.size)⟩
theorem info_light {P : Program} {T : TypeId} (h : ((P.info? T).bind fun i => i.zero.map fun z => decide (i.bytes ≤ 4000)) = some true) : ∃ i z, P.info? T = some i ∧ i.zero = some z ∧ i.bytes ≤ 4000 := by
  cases hi : P.info? T with
  | none => rw [hi] at h; cases h
  | some i =>
    rw [hi] at h
    cases hz : i.zero with
    | none => simp [hz] at h
    | some z => simp [hz] at h; exact ⟨i, z, rfl, hz, h⟩
set_option maxRecDepth 100000 in
set_option maxHeartbeats 8000000 in
theorem rs8_is (w : World) : Calls Tryd.prog 28 #[.int .i64 12, .int .i64 12, .int .i64 6, .int .i64 8, .int .i64 6, .int .i64 4] w fun e w' => ∃ x, e = .returned (.pointer (some ⟨x, 0, none⟩)) ∧ Below w.heap.size w w' := by
  obtain ⟨iN, zN, hi1, hi2, hi3⟩ := info_light (P := Tryd.prog) (T := 83) (by kernel_rfl); have HIN := Lib.hid (⟨hi1, hi2, hi3⟩ : Tryd.prog.info? 83 = some iN ∧ iN.zero = some zN ∧ iN.bytes ≤ 4000); clear hi1 hi2 hi3
  obtain ⟨iP, zP, hi1, hi2, hi3⟩ := info_light (P := Tryd.prog) (T := 218) (by kernel_rfl); have HIP := Lib.hid (⟨hi1, hi2, hi3⟩ : Tryd.prog.info? 218 = some iP ∧ iP.zero = some zP ∧ iP.bytes ≤ 4000); clear hi1 hi2 hi3
  obtain ⟨iD, zD, hi1, hi2, hi3⟩ := info_light (P := Tryd.prog) (T := 222) (by kernel_rfl); have HID := Lib.hid (⟨hi1, hi2, hi3⟩ : Tryd.prog.info? 222 = some iD ∧ iD.zero = some zD ∧ iD.bytes ≤ 4000); clear hi1 hi2 hi3
  obtain ⟨iM, zM, hi1, hi2, hi3⟩ := info_light (P := Tryd.prog) (T := 224) (by kernel_rfl); have HIM := Lib.hid (⟨hi1, hi2, hi3⟩ : Tryd.prog.info? 224 = some iM ∧ iM.zero = some zM ∧ iM.bytes ≤ 4000); clear hi1 hi2 hi3
  obtain ⟨iB, zB, hi1, hi2, hi3⟩ := info_light (P := Tryd.prog) (T := 226) (by kernel_rfl); have HIB := Lib.hid (⟨hi1, hi2, hi3⟩ : Tryd.prog.info? 226 = some iB ∧ iB.zero = some zB ∧ iB.bytes ≤ 4000); clear hi1 hi2 hi3
  obtain ⟨iF, zF, hi1, hi2, hi3⟩ := info_light (P := Tryd.prog) (T := 228) (by kernel_rfl); have HIF := Lib.hid (⟨hi1, hi2, hi3⟩ : Tryd.prog.info? 228 = some iF ∧ iF.zero = some zF ∧ iF.bytes ≤ 4000); clear hi1 hi2 hi3
  have HZ0 : Hid (Below w.heap.size w w) := Lib.hid (Below.refl _ _)
  go_enter Tryd.func28, Tryd.ntmps28
  go_upto_region 2 with (first
    | (go_at_call 56; (with_reducible refine (slots_is 12 12 (Lib.hid rfl) (by decide) w).mono ?_); rintro e w1 ⟨v1, rfl, hr, hb⟩; obtain ⟨a1, c1, rfl⟩ := own_shape' hr; have HZ1 := Lib.hid (HZ0.out.trans (hb.mono HZ0.out.size)); clear hr hb)
    | (go_at_call 56; (with_reducible refine (slots_is 12 12 (Lib.hid rfl) (by decide) w1).mono ?_); rintro e w2 ⟨v2, rfl, hr, hb⟩; obtain ⟨a2, c2, rfl⟩ := own_shape' hr; have HZ2 := Lib.hid (HZ1.out.trans (hb.mono HZ1.out.size)); clear hr hb)
    | (go_at_call 56; (with_reducible refine (slots_is 6 6 (Lib.hid rfl) (by decide) w2).mono ?_); rintro e w3 ⟨v3, rfl, hr, hb⟩; obtain ⟨a3, c3, rfl⟩ := own_shape' hr; have HZ3 := Lib.hid (HZ2.out.trans (hb.mono HZ2.out.size)); clear hr hb)
    | (go_at_call 56; (with_reducible refine (slots_is 8 8 (Lib.hid rfl) (by decide) w3).mono ?_); rintro e w4 ⟨v4, rfl, hr, hb⟩; obtain ⟨a4, c4, rfl⟩ := own_shape' hr; have HZ4 := Lib.hid (HZ3.out.trans (hb.mono HZ3.out.size)); clear hr hb)
    | (go_at_call 56; (with_reducible refine (slots_is 6 6 (Lib.hid rfl) (by decide) w4).mono ?_); rintro e w5 ⟨v5, rfl, hr, hb⟩; obtain ⟨a5, c5, rfl⟩ := own_shape' hr; have HZ5 := Lib.hid (HZ4.out.trans (hb.mono HZ4.out.size)); clear hr hb)
    | (go_at_call 56; (with_reducible refine (slots_is 4 4 (Lib.hid rfl) (by decide) w5).mono ?_); rintro e w6 ⟨v6, rfl, hr, hb⟩; obtain ⟨a6, c6, rfl⟩ := own_shape' hr; have HZ6 := Lib.hid (HZ5.out.trans (hb.mono HZ5.out.size)); clear hr hb))
  obtain ⟨w7, hw7⟩ : ∃ w7, w7 = w6.alloc (.cells #[.slice a1 12 c1, .slice a2 12 c2, .slice a3 6 c3, .slice a4 8 c4, .slice a5 6 c5, .slice a6 4 c6, .slice none 0 0, .slice none 0 0, .slice none 0 0, .slice none 0 0, .slice none 0 0, .slice none 0 0, .slice none 0 0, .slice none 0 0, .slice none 0 0, .int .i64 0] 144 (0, 0)) := ⟨_, rfl⟩
  have HX7 : Hid (SyBx w6 w7 w6.heap.size) := Lib.hid (by
    rw [hw7]
    exact ⟨(Below.refl _ _).alloc (Nat.le_refl _) _, rfl, ⟨_, own_box w6 _ _ _ 16 _ rfl rfl (Nat.le_refl _)⟩⟩)
  rw [← hw7]
  clear hw7
  go_wp2_with (first
    | (at_make; refine wpList_make_full _ rfl _ _ 51 rfl 0 83 iN zN iN.size Tryd.underlying51 HIN.out.1 HIN.out.2.1 rfl .i64 .i64 _ _ 12 rfl rfl rfl rfl (by have := HIN.out.2.2; omega) (by decide) (Nat.zero_le _) ?_); intro w8 hown hgrow; have HX8 := Lib.hid (HX7.out.grow hgrow); obtain ⟨⟨u6, c6⟩, z6⟩ := HX8.out.cell 6 (by decide); clear hown hgrow
    | (at_make; refine wpList_make_full _ rfl _ _ 54 rfl 0 218 iP zP iP.size Tryd.underlying54 HIP.out.1 HIP.out.2.1 rfl .i64 .i64 _ _ 12 rfl rfl rfl rfl (by have := HIP.out.2.2; omega) (by decide) (Nat.zero_le _) ?_); intro w9 hown hgrow; have HX9 := Lib.hid (HX8.out.next 6 _ hgrow); obtain ⟨⟨u7, c7⟩, z7⟩ := HX9.out.cell 7 (by decide); clear hown hgrow
    | (at_make; refine wpList_make_full _ rfl _ _ 139 rfl 0 222 iD zD iD.size Tryd.underlying139 HID.out.1 HID.out.2.1 rfl .i64 .i64 _ _ 6 rfl rfl rfl rfl (by have := HID.out.2.2; omega) (by decide) (Nat.zero_le _) ?_); intro w10 hown hgrow; have HX10 := Lib.hid (HX9.out.next 7 _ hgrow); obtain ⟨⟨u8, c8⟩, z8⟩ := HX10.out.cell 8 (by decide); clear hown hgrow
    | (at_make; refine wpList_make_full _ rfl _ _ 140 rfl 0 224 iM zM iM.size Tryd.underlying140 HIM.out.1 HIM.out.2.1 rfl .i64 .i64 _ _ 8 rfl rfl rfl rfl (by have := HIM.out.2.2; omega) (by decide) (Nat.zero_le _) ?_); intro w11 hown hgrow; have HX11 := Lib.hid (HX10.out.next 8 _ hgrow); obtain ⟨⟨u9, c9⟩, z9⟩ := HX11.out.cell 9 (by decide); clear hown hgrow
    | (at_make; refine wpList_make_full _ rfl _ _ 141 rfl 0 226 iB zB iB.size Tryd.underlying141 HIB.out.1 HIB.out.2.1 rfl .i64 .i64 _ _ 6 rfl rfl rfl rfl (by have := HIB.out.2.2; omega) (by decide) (Nat.zero_le _) ?_); intro w12 hown hgrow; have HX12 := Lib.hid (HX11.out.next 9 _ hgrow); obtain ⟨⟨u10, c10⟩, z10⟩ := HX12.out.cell 10 (by decide); clear hown hgrow
    | (at_make; refine wpList_make_full _ rfl _ _ 142 rfl 0 228 iF zF iF.size Tryd.underlying142 HIF.out.1 HIF.out.2.1 rfl .i64 .i64 _ _ 4 rfl rfl rfl rfl (by have := HIF.out.2.2; omega) (by decide) (Nat.zero_le _) ?_); intro w13 hown hgrow; have HX13 := Lib.hid (HX12.out.next 10 _ hgrow); obtain ⟨⟨u11, c11⟩, z11⟩ := HX13.out.cell 11 (by decide); clear hown hgrow)
  go_ret
  exact ⟨_, rfl, (HZ6.out.trans (HX13.out.bel.mono HZ6.out.size)).setCell HZ6.out.size _⟩
end Go.Proofs.YtncopdhhchmpeaaDoor
namespace Go.Proofs.YtncopdhhchmpeaaDoor
open Go.ChangeShapes Go.WideShapes Go.ChangeAt Go.RowKit
set_option linter.unusedVariables false
set_option linter.unusedSimpArgs false
section
variable {s m d t b f q : Nat} {st : Int}
set_option maxRecDepth 100000 in
set_option maxHeartbeats 2000000 in
theorem slive_judge (w : World) : Calls Tryd.prog 18 #[.pointer (some ⟨s, 0, none⟩), .agg #[.int .i64 12, .int .i64 0, .int .i64 0, .int .i64 0, .int .u32 0]] w fun e w' => e = .returned (.bool true) ∧ Below w.heap.size w w' := by
  go_enter Tryd.func18, Tryd.ntmps18
  go_wp2_with fail
  go_ret
  exact ⟨rfl, (Below.refl _ _).alloc (Nat.le_refl _) _⟩
set_option maxRecDepth 100000 in
set_option maxHeartbeats 4000000 in
theorem slive_dom (k1 k2 k3 k4 : Int) (dp dR n c base : Nat) (th : Nat → Bool) (vr : Nat → Int) (r : Bool) (hr : Hid ((thereB n th k1 && (vr k1.toNat == k2)) = r)) (w : World) (hB : SyB w s m d t b f q st) (hP : w.cell? ⟨d, 0, none⟩ = some (.pointer (some ⟨dp, 0, none⟩))) (hA : ArAt w base dp dR n c th vr) :
    Calls Tryd.prog 18 #[.pointer (some ⟨s, 0, none⟩), .agg #[.int .i64 4, .int .i64 k1, .int .i64 k2, .int .i64 k3, .int .u32 k4]] w fun e w' => e = .returned (.bool r) ∧ Below w.heap.size w w' := by
  have HA := Lib.hid (fun W (hW : Below w.heap.size w W) => alive_is k1 k2 r hr W (hA.below hW))
  have HB := Lib.hid hB
  have HP := Lib.hid hP
  have hdl : d < w.heap.size := cell_lt hP
  clear hA hB hP
  go_enter Tryd.func18, Tryd.ntmps18
  go_upto_region 1 with fail
  generalize hA : World.alloc w _ = wA
  obtain ⟨K, hK⟩ : ∃ K, K = w.heap.size := ⟨_, rfl⟩
  have HBa : Hid (Below w.heap.size w wA) := Lib.hid (by rw [← hA]; exact (Below.refl _ _).alloc (Nat.le_refl _) _)
  have kc0 : wA.cell? ⟨K, 0, none⟩ = some (.int .i64 4) := by rw [← hA, hK]; simp
  have kc1 : wA.cell? ⟨K, 1, none⟩ = some (.int .i64 k1) := by rw [← hA, hK]; simp
  have kc2 : wA.cell? ⟨K, 2, none⟩ = some (.int .i64 k2) := by rw [← hA, hK]; simp
  have sc := ((HB.out.below HBa.out).c1)
  have pc := (HBa.out.cell (p := ⟨d, 0, none⟩) hdl).trans HP.out
  rw [← hK]
  clear hA hK hdl
  go_wp2_with fail
  have HA9 := Lib.hid (fun n => HA.out (wA.drewN n) (below_drewN HBa.out n))
  go_quiet ((go_at_call 46; exact kquiet_left (HA9.out _)))
  go_wp2_with fail
  go_ret
  exact ⟨rfl, below_drewN HBa.out _⟩
end
set_option maxRecDepth 100000 in
set_option maxHeartbeats 2000000 in
theorem script_ok (w : World) : Calls Tryd.prog 10 #[] w fun e w' => ∃ L X x, e = .returned (.tuple #[(.pointer (some ⟨X.s, 0, none⟩)), .pointer (some ⟨x, 0, none⟩)]) ∧ SysNew w w' L X ∧ Hid (L.a.n = 12 ∧ L.b.n = 12 ∧ L.dn = 6 ∧ X.tn = 8 ∧ L.n = 6 ∧ X.fn = 4) ∧ Below w.heap.size w w' := by
  go_enter Tryd.func10, Tryd.ntmps10
  go_wp2_with (first
    | (go_at_call 6; (with_reducible refine (sys_ok 12 12 6 8 6 4 (by decide) (by decide) (by decide) (by decide) (by decide) (by decide) 12 12 6 8 6 4 (Lib.hid (by decide)) _).mono ?_); rintro e w1 ⟨L, X, rfl, hs, hn, hb⟩; have HSy := Lib.hid hs; have HN := Lib.hid hn.out; have HB1 := Lib.hid hb; clear hs hn hb)
    | (go_at_call 28; (with_reducible refine (rs8_is _).mono ?_); rintro e w2 ⟨x, rfl, hb⟩; have HB2 := Lib.hid hb; clear hb))
  go_ret2
  exact ⟨L, X, x, rfl, HSy.out.below HB2.out, HN, HB1.out.trans (HB2.out.mono HB1.out.size)⟩
set_option maxRecDepth 100000 in
set_option maxHeartbeats 2000000 in
theorem first21_is (w : World) : Calls Tryd.prog 5 #[] w fun e w' => e = .returned (.bool true) ∧ Below w.heap.size w w' := by
  go_enter Tryd.func5, Tryd.ntmps5
  go_wp2_with (first
    | (go_at_call 10; (with_reducible refine (script_ok _).mono ?_); rintro e w1 ⟨L, X, x, rfl, hs, -, hb⟩; have HB1 := Lib.hid hb; have HLv := Lib.hid (slive_dom (s := X.s) 0 0 0 0 L.dp L.dR L.dn L.dc L.dB st0.dt st0.dv false (Lib.hid (by simp [thereB, st0])) w1 hs.b hs.k.d.pl.f0 hs.k.d.pl.ar); clear hs hb)
    | (go_at_call 18; (with_reducible refine HLv.out.mono ?_); rintro e w2 ⟨rfl, hb⟩; have HB2 := Lib.hid (HB1.out.trans (hb.mono HB1.out.size)); clear hb)
    | (go_at_call 18; (with_reducible refine (slive_judge _).mono ?_); rintro e w3 ⟨rfl, hb⟩; have HB3 := Lib.hid (HB2.out.trans (hb.mono HB2.out.size)); clear hb))
  go_ret
  exact ⟨rfl, HB3.out⟩
end Go.Proofs.YtncopdhhchmpeaaDoor
namespace Go.Proofs.YtncopdhhchmpeaaDoor
open Go.ChangeShapes Go.WideShapes Go.ChangeAt Go.RowKit
set_option linter.unusedVariables false
/-- What of an operation tells who must go ahead of whom: where it writes, what it looks at, what it waits for. -/
def opS (ops : Array Oper) (o : Oper) : Option Nat × List Nat × List Nat := (o.dst, o.looksAt ops, (o.after.toList.filter fun e => Region.binds .any e).map (·.on))
def apartS (s t : Option Nat × List Nat × List Nat) : Bool :=
  (match s.1 with
   | some d => !(t.2.1.contains d) && t.1 != some d
   | none => true) &&
  (match t.1 with
   | some d => !(s.2.1.contains d)
   | none => true)
def depsLt : Nat → List (Option Nat × List Nat × List Nat) → Bool
  | _, [] => true
  | k, s :: r => (s.2.2.all fun d => decide (d < k)) && depsLt (k + 1) r
def pairsS : Nat → List (Option Nat × List Nat × List Nat) → Bool
  | _, [] => true
  | k, s :: r => (r.all fun t => t.2.2.contains k || apartS s t) && pairsS (k + 1) r
theorem apart_opS (ops : Array Oper) (x y : Oper) : x.apart ops y = apartS (opS ops x) (opS ops y) := rfl
theorem deps_at : ∀ (D : List (Option Nat × List Nat × List Nat)) (k : Nat), depsLt k D = true → ∀ (i : Nat) (s), D[i]? = some s → ∀ d ∈ s.2.2, d < k + i := by
  intro D
  induction D with
  | nil => intro k _ i s h; cases h
  | cons a r ih =>
    intro k h i s hi d hd
    rw [depsLt, Bool.and_eq_true] at h
    cases i with
    | zero =>
      simp only [List.getElem?_cons_zero, Option.some.injEq] at hi
      subst hi
      have := List.all_eq_true.1 h.1 d hd
      simpa using this
    | succ i =>
      have := ih (k + 1) h.2 i s (by simpa using hi) d hd
      omega
theorem pairs_at : ∀ (D : List (Option Nat × List Nat × List Nat)) (k : Nat), pairsS k D = true → ∀ (i j : Nat) (s t), D[i]? = some s → D[j]? = some t → i < j → (t.2.2.contains (k + i) || apartS s t) = true := by
  intro D
  induction D with
  | nil => intro k _ i j s t h; cases h
  | cons a r ih =>
    intro k h i j s t hi hj hij
    rw [pairsS, Bool.and_eq_true] at h
    cases j with
    | zero => omega
    | succ j =>
      cases i with
      | zero =>
        simp only [List.getElem?_cons_zero, Option.some.injEq] at hi
        subst hi
        exact List.all_eq_true.1 h.1 t (List.mem_of_getElem? (by simpa using hj))
      | succ i =>
        have := ih (k + 1) h.2 i j s t (by simpa using hi) (by simpa using hj) (by omega)
        rwa [show k + 1 + i = k + (i + 1) by omega] at this
/-- The first k are done. -/
def ListedK (n k : Nat) (a : Array Bool) : Prop := a.size = n ∧ ∀ i, i < n → a[i]? = some (decide (i < k))
theorem ListedK.getD {n k i : Nat} {a : Array Bool} {b : Bool} (h : ListedK n k a) (hi : i < n) : a.getD i b = decide (i < k) := by
  rw [Array.getD_eq_getD_getElem?, h.2 i hi]
  rfl
theorem ListedK.next {n k : Nat} {a : Array Bool} (h : ListedK n k a) (hk : k < n) : ListedK n (k + 1) (a.setIfInBounds k true) := by
  refine ⟨by rw [Array.size_setIfInBounds]; exact h.1, fun i hi => ?_⟩
  rw [Array.getElem?_setIfInBounds]
  by_cases e : k = i
  · subst e
    rw [if_pos rfl, if_pos (by rw [h.1]; exact hk)]
    simp
  · rw [if_neg e, h.2 i hi]
    congr 1
    simp only [decide_eq_decide]
    omega
theorem ListedK.zero (n : Nat) : ListedK n 0 (Array.replicate n false) := ⟨by simp, fun i hi => by simp [hi]⟩
theorem lex_from {l : List Oper} (D : List (Option Nat × List Nat × List Nat)) (hD : l.map (opS l.toArray) = D) (h1 : depsLt 0 D = true) (h2 : pairsS 0 D = true) :
    ∀ (f k : Nat) (a : Array Bool), k + f = l.length → ListedK l.length k a → Region.lexFrom .any l.toArray f k a = true := by
  have hat : ∀ (i : Nat) (o : Oper), l[i]? = some o → D[i]? = some (opS l.toArray o) := fun i o h => by
    rw [← hD, List.getElem?_map, h]; rfl
  intro f
  induction f with
  | zero =>
    intro k a hk ha
    rw [Region.lexFrom, List.isEmpty_iff]
    unfold Region.ready
    rw [List.filter_eq_nil_iff]
    intro i hi
    have hil : i < l.length := by simpa using hi
    rw [ha.getD hil, decide_eq_true (show i < k by omega)]
    simp
  | succ f ih =>
    intro k a hk ha
    have hkl : k < l.length := by omega
    have hok : l[k]? = some l[k] := List.getElem?_eq_getElem hkl
    rw [Region.lexFrom, Bool.and_eq_true, Bool.and_eq_true]
    refine ⟨⟨?_, ?_⟩, ih (k + 1) _ (by omega) (ha.next hkl)⟩
    · rw [List.contains_iff_mem]
      unfold Region.ready
      rw [List.mem_filter]
      refine ⟨by simpa using hkl, ?_⟩
      rw [ha.getD hkl, List.getElem?_toArray, hok]
      simp only [Nat.lt_irrefl, decide_false, Bool.not_false, Bool.true_and, Option.map_some, Option.getD_some]
      rw [Array.all_eq_true_iff_forall_mem]
      intro e he
      by_cases hb : Region.binds .any e = true
      · have hd : e.on < k := by
          have := deps_at D 0 h1 k _ (hat k _ hok) e.on (by
            show e.on ∈ ((l[k].after.toList.filter fun e => Region.binds .any e).map (·.on))
            exact List.mem_map.2 ⟨e, List.mem_filter.2 ⟨by simpa using he, hb⟩, rfl⟩)
          omega
        rw [ha.getD (by omega), decide_eq_true hd, Bool.or_true]
      · simp [hb]
    · unfold Region.free
      rw [List.getElem?_toArray, hok]
      simp only
      rw [List.all_eq_true]
      intro j hj
      have hjl : j < l.length := by simpa using hj
      have hoj : l[j]? = some l[j] := List.getElem?_eq_getElem hjl
      by_cases e : j = k
      · simp [e]
      · by_cases hlt : j < k
        · rw [ha.getD hjl, decide_eq_true hlt]; simp
        · have := pairs_at D 0 h2 k j _ _ (hat k _ hok) (hat j _ hoj) (by omega)
          rw [Nat.zero_add, Bool.or_eq_true] at this
          rw [List.getElem?_toArray, hoj]
          simp only [Bool.or_eq_true]
          refine .inr ?_
          rcases this with h | h
          · refine .inl ?_
            rw [List.contains_iff_mem] at h
            obtain ⟨e2, he2, hon⟩ := List.mem_map.1 h
            obtain ⟨hm, hb⟩ := List.mem_filter.1 he2
            rw [← Array.any_toList, List.any_eq_true]
            exact ⟨e2, hm, by simp [hb, hon]⟩
          · exact .inr h
theorem lexB_of {l : List Oper} (D : List (Option Nat × List Nat × List Nat)) (hs : Region.noSelect l.toArray = true) (hD : l.map (opS l.toArray) = D) (h1 : depsLt 0 D = true) (h2 : pairsS 0 D = true) : Region.lexB .any l.toArray = true := by
  unfold Region.lexB
  rw [hs, Bool.true_and]
  exact lex_from D hD h1 h2 _ 0 _ (by simp) (by rw [List.size_toArray]; exact ListedK.zero _)
end Go.Proofs.YtncopdhhchmpeaaDoor
