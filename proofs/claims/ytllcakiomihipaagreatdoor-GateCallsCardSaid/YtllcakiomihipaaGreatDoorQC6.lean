/-
  GCd, GCe: what GateCalls reaches of them.
-/
import Derived.Test.YtllcakiomihipaaGreatDoorQC5
namespace Go.Proofs.YtllcakiomihipaaGreatDoor
open Go.ChangeShapes Go.WideShapes Go.ChangeAt Go.RowKit
set_option linter.unusedVariables false
set_option linter.unusedSimpArgs false
theorem range_of5 {W : World} {b o : Nat} {v0 v1 v2 v3 v4 : Value} (c0 : W.cell? ⟨b, o, none⟩ = some v0) (c1 : W.cell? ⟨b, o + 1, none⟩ = some v1) (c2 : W.cell? ⟨b, o + 2, none⟩ = some v2) (c3 : W.cell? ⟨b, o + 3, none⟩ = some v3) (c4 : W.cell? ⟨b, o + 4, none⟩ = some v4) : W.rangeAt b o [v0, v1, v2, v3, v4] := fun j v hv => by
  match j, hv with
  | 0, hv => cases hv; exact c0
  | 1, hv => cases hv; exact c1
  | 2, hv => cases hv; exact c2
  | 3, hv => cases hv; exact c3
  | 4, hv => cases hv; exact c4
/-- The two notes in their boxes. -/
structure NM (w W : World) (NB MB : Nat) (ns ms : List Value) : Prop where
  bel : Below w.heap.size w W
  n : W.rangeAt NB 0 ns
  m : W.rangeAt MB 0 ms
  ln : NB < W.heap.size
  lm : MB < W.heap.size
theorem NM.below {w W W' : World} {NB MB : Nat} {ns ms : List Value} (h : NM w W NB MB ns ms) (hb : Below W.heap.size W W') : NM w W' NB MB ns ms :=
  ⟨h.bel.trans (hb.mono h.bel.size), range_below h.n hb h.ln, range_below h.m hb h.lm, Nat.lt_of_lt_of_le h.ln hb.size, Nat.lt_of_lt_of_le h.lm hb.size⟩
theorem f1_rows : RowsF 4 F1 := fun i _ => by
  unfold F1 setF
  split
  · exact ⟨fun j _ => RW_one _ _ _ _ _ _ j, _, _, rfl, rfl⟩
  · exact ⟨fun j _ => RW_one _ _ _ _ _ _ j, _, _, rfl, rfl⟩
/-- What was seen so far lies in a box of its own. -/
structure SS (wv W : World) (L : BLoc) (X : SLoc) (SB : Nat) (ss : List Value) : Prop where
  gs : GS wv W L X 4 0 [SB] F1 []
  r : W.rangeAt SB 0 ss
  t : World.there W SB 0 15
  x : X.s < SB
theorem SS.below {wv W W' : World} {L : BLoc} {X : SLoc} {SB : Nat} {ss : List Value} (h : SS wv W L X SB ss) (hb : Below W.heap.size W W') : SS wv W' L X SB ss :=
  ⟨h.gs.below hb, range_below h.r hb (h.gs.a SB (by simp)).1, nthere_below h.t hb (h.gs.a SB (by simp)).1, h.x⟩
theorem SS.put {wv W : World} {L : BLoc} {X : SLoc} {SB : Nat} {ss : List Value} (h : SS wv W L X SB ss) (i : Nat) (v0 v1 v2 v3 v4 : Value) : SS wv (W.setCells SB i [v0, v1, v2, v3, v4]) L X SB (((((ss.set i v0).set (i + 1) v1).set (i + 1 + 1) v2).set (i + 1 + 1 + 1) v3).set (i + 1 + 1 + 1 + 1) v4) :=
  ⟨h.gs.cells SB (by simp) h.x i _, range_key5 h.r i v0 v1 v2 v3 v4, World.there_setCells h.t _ _ _, h.x⟩
set_option maxRecDepth 100000 in
set_option maxHeartbeats 2000000 in
theorem calls_walk (o a b c : Int) (m0 m1 m2 m3 m4 : Int) (n0 n1 n2 n3 n4 : Int) (p0 p1 p2 p3 p4 : Int) (oo aa bb cc : Int) (q0 q1 q2 q3 q4 : Int) (r0 r1 r2 r3 r4 : Int) (s0 s1 s2 s3 s4 : Int) (gm : 0 ≤ m4 ∧ m4 ≤ 4294967295) (gn : 0 ≤ n4 ∧ n4 ≤ 4294967295) (gp : 0 ≤ p4 ∧ p4 ≤ 4294967295) (gq : 0 ≤ q4 ∧ q4 ≤ 4294967295) (gr : 0 ≤ r4 ∧ r4 ≤ 4294967295) (gs : 0 ≤ s4 ∧ s4 ≤ 4294967295) (bd : Int) (b0 : 0 ≤ bd ∧ bd ≤ 4294967295) (w : World) (vs vr : Value) (hE : ErrsAt vs vr w) :
    Calls Tryz.prog 5 #[.agg ([.int .u32 o, .int .u32 a, .int .u32 b, .int .u32 c, .int .i64 m0, .int .i64 m1, .int .i64 m2, .int .i64 m3, .int .u32 m4, .int .i64 n0, .int .i64 n1, .int .i64 n2, .int .i64 n3, .int .u32 n4, .int .i64 p0, .int .i64 p1, .int .i64 p2, .int .i64 p3, .int .u32 p4] : List Value).toArray, .agg ([.int .u32 oo, .int .u32 aa, .int .u32 bb, .int .u32 cc, .int .i64 q0, .int .i64 q1, .int .i64 q2, .int .i64 q3, .int .u32 q4, .int .i64 r0, .int .i64 r1, .int .i64 r2, .int .i64 r3, .int .u32 r4, .int .i64 s0, .int .i64 s1, .int .i64 s2, .int .i64 s3, .int .u32 s4] : List Value).toArray, .int .u32 bd] w fun e w' => e = .returned (.bool true) ∧ Below w.heap.size w w' := by
  have HE := Lib.hid hE
  have HBD := Lib.hid b0
  have hb9 : bd % 1000 ≤ 999 := by omega
  obtain ⟨cm, hcm⟩ : ∃ cm, cm = codeOf m0 m1 m2 m3 m4 := ⟨_, rfl⟩
  have HVm : Hid (∀ W, Calls Tryz.prog 20 #[(Value.agg #[.int .i64 m0, .int .i64 m1, .int .i64 m2, .int .i64 m3, .int .u32 m4])] W fun e w' => e = .returned (.int .i64 cm) ∧ Below W.heap.size W w') := Lib.hid (fun W => by rw [hcm]; exact valid_any m0 m1 m2 m3 m4 gm.2 W)
  have HCm := Lib.hid hcm
  clear hcm
  obtain ⟨cn, hcn⟩ : ∃ cn, cn = codeOf n0 n1 n2 n3 n4 := ⟨_, rfl⟩
  have HVn : Hid (∀ W, Calls Tryz.prog 20 #[(Value.agg #[.int .i64 n0, .int .i64 n1, .int .i64 n2, .int .i64 n3, .int .u32 n4])] W fun e w' => e = .returned (.int .i64 cn) ∧ Below W.heap.size W w') := Lib.hid (fun W => by rw [hcn]; exact valid_any n0 n1 n2 n3 n4 gn.2 W)
  have HCn := Lib.hid hcn
  clear hcn
  obtain ⟨cp, hcp⟩ : ∃ cp, cp = codeOf p0 p1 p2 p3 p4 := ⟨_, rfl⟩
  have HVp : Hid (∀ W, Calls Tryz.prog 20 #[(Value.agg #[.int .i64 p0, .int .i64 p1, .int .i64 p2, .int .i64 p3, .int .u32 p4])] W fun e w' => e = .returned (.int .i64 cp) ∧ Below W.heap.size W w') := Lib.hid (fun W => by rw [hcp]; exact valid_any p0 p1 p2 p3 p4 gp.2 W)
  have HCp := Lib.hid hcp
  clear hcp
  obtain ⟨cq, hcq⟩ : ∃ cq, cq = codeOf q0 q1 q2 q3 q4 := ⟨_, rfl⟩
  have HVq : Hid (∀ W, Calls Tryz.prog 20 #[(Value.agg #[.int .i64 q0, .int .i64 q1, .int .i64 q2, .int .i64 q3, .int .u32 q4])] W fun e w' => e = .returned (.int .i64 cq) ∧ Below W.heap.size W w') := Lib.hid (fun W => by rw [hcq]; exact valid_any q0 q1 q2 q3 q4 gq.2 W)
  have HCq := Lib.hid hcq
  clear hcq
  obtain ⟨cr, hcr⟩ : ∃ cr, cr = codeOf r0 r1 r2 r3 r4 := ⟨_, rfl⟩
  have HVr : Hid (∀ W, Calls Tryz.prog 20 #[(Value.agg #[.int .i64 r0, .int .i64 r1, .int .i64 r2, .int .i64 r3, .int .u32 r4])] W fun e w' => e = .returned (.int .i64 cr) ∧ Below W.heap.size W w') := Lib.hid (fun W => by rw [hcr]; exact valid_any r0 r1 r2 r3 r4 gr.2 W)
  have HCr := Lib.hid hcr
  clear hcr
  obtain ⟨cs, hcs⟩ : ∃ cs, cs = codeOf s0 s1 s2 s3 s4 := ⟨_, rfl⟩
  have HVs : Hid (∀ W, Calls Tryz.prog 20 #[(Value.agg #[.int .i64 s0, .int .i64 s1, .int .i64 s2, .int .i64 s3, .int .u32 s4])] W fun e w' => e = .returned (.int .i64 cs) ∧ Below W.heap.size W w') := Lib.hid (fun W => by rw [hcs]; exact valid_any s0 s1 s2 s3 s4 gs.2 W)
  have HCs := Lib.hid hcs
  clear hcs
  have HGG := Lib.hid (And.intro gm (And.intro gn (And.intro gp (And.intro gq (And.intro gr gs)))))
  clear hE b0 gm gn gp gq gr gs
  go_enter Tryz.func5, Tryz.ntmps5
  go_upto_region 1 with fail
  generalize hgA : World.alloc _ _ = wA
  obtain ⟨NB, MB, hNB, hMB⟩ : ∃ NB MB, NB = w.heap.size ∧ MB = w.heap.size + 1 := ⟨_, _, rfl, rfl⟩
  have HA : Hid (NM w wA NB MB [.int .u32 o, .int .u32 a, .int .u32 b, .int .u32 c, .int .i64 m0, .int .i64 m1, .int .i64 m2, .int .i64 m3, .int .u32 m4, .int .i64 n0, .int .i64 n1, .int .i64 n2, .int .i64 n3, .int .u32 n4, .int .i64 p0, .int .i64 p1, .int .i64 p2, .int .i64 p3, .int .u32 p4] [.int .u32 oo, .int .u32 aa, .int .u32 bb, .int .u32 cc, .int .i64 q0, .int .i64 q1, .int .i64 q2, .int .i64 q3, .int .u32 q4, .int .i64 r0, .int .i64 r1, .int .i64 r2, .int .i64 r3, .int .u32 r4, .int .i64 s0, .int .i64 s1, .int .i64 s2, .int .i64 s3, .int .u32 s4]) := Lib.hid (by
    have z : (w.alloc (.cells ([.int .u32 o, .int .u32 a, .int .u32 b, .int .u32 c, .int .i64 m0, .int .i64 m1, .int .i64 m2, .int .i64 m3, .int .u32 m4, .int .i64 n0, .int .i64 n1, .int .i64 n2, .int .i64 n3, .int .u32 n4, .int .i64 p0, .int .i64 p1, .int .i64 p2, .int .i64 p3, .int .u32 p4] : List Value).toArray 52)).heap.size = w.heap.size + 1 := by simp
    have b1 : Below w.heap.size w (w.alloc (.cells ([.int .u32 o, .int .u32 a, .int .u32 b, .int .u32 c, .int .i64 m0, .int .i64 m1, .int .i64 m2, .int .i64 m3, .int .u32 m4, .int .i64 n0, .int .i64 n1, .int .i64 n2, .int .i64 n3, .int .u32 n4, .int .i64 p0, .int .i64 p1, .int .i64 p2, .int .i64 p3, .int .u32 p4] : List Value).toArray 52)) := (Below.refl _ _).alloc (Nat.le_refl _) _
    have b2 : Below (w.alloc (.cells ([.int .u32 o, .int .u32 a, .int .u32 b, .int .u32 c, .int .i64 m0, .int .i64 m1, .int .i64 m2, .int .i64 m3, .int .u32 m4, .int .i64 n0, .int .i64 n1, .int .i64 n2, .int .i64 n3, .int .u32 n4, .int .i64 p0, .int .i64 p1, .int .i64 p2, .int .i64 p3, .int .u32 p4] : List Value).toArray 52)).heap.size (w.alloc (.cells ([.int .u32 o, .int .u32 a, .int .u32 b, .int .u32 c, .int .i64 m0, .int .i64 m1, .int .i64 m2, .int .i64 m3, .int .u32 m4, .int .i64 n0, .int .i64 n1, .int .i64 n2, .int .i64 n3, .int .u32 n4, .int .i64 p0, .int .i64 p1, .int .i64 p2, .int .i64 p3, .int .u32 p4] : List Value).toArray 52)) ((w.alloc (.cells ([.int .u32 o, .int .u32 a, .int .u32 b, .int .u32 c, .int .i64 m0, .int .i64 m1, .int .i64 m2, .int .i64 m3, .int .u32 m4, .int .i64 n0, .int .i64 n1, .int .i64 n2, .int .i64 n3, .int .u32 n4, .int .i64 p0, .int .i64 p1, .int .i64 p2, .int .i64 p3, .int .u32 p4] : List Value).toArray 52)).alloc (.cells ([.int .u32 oo, .int .u32 aa, .int .u32 bb, .int .u32 cc, .int .i64 q0, .int .i64 q1, .int .i64 q2, .int .i64 q3, .int .u32 q4, .int .i64 r0, .int .i64 r1, .int .i64 r2, .int .i64 r3, .int .u32 r4, .int .i64 s0, .int .i64 s1, .int .i64 s2, .int .i64 s3, .int .u32 s4] : List Value).toArray 52)) := (Below.refl _ _).alloc (Nat.le_refl _) _
    have r2 := cbox (w.alloc (.cells ([.int .u32 o, .int .u32 a, .int .u32 b, .int .u32 c, .int .i64 m0, .int .i64 m1, .int .i64 m2, .int .i64 m3, .int .u32 m4, .int .i64 n0, .int .i64 n1, .int .i64 n2, .int .i64 n3, .int .u32 n4, .int .i64 p0, .int .i64 p1, .int .i64 p2, .int .i64 p3, .int .u32 p4] : List Value).toArray 52)) [.int .u32 oo, .int .u32 aa, .int .u32 bb, .int .u32 cc, .int .i64 q0, .int .i64 q1, .int .i64 q2, .int .i64 q3, .int .u32 q4, .int .i64 r0, .int .i64 r1, .int .i64 r2, .int .i64 r3, .int .u32 r4, .int .i64 s0, .int .i64 s1, .int .i64 s2, .int .i64 s3, .int .u32 s4] 52
    rw [z] at r2
    rw [← hgA, hMB, hNB]
    exact ⟨b1.trans (b2.mono b1.size), range_below (cbox w [.int .u32 o, .int .u32 a, .int .u32 b, .int .u32 c, .int .i64 m0, .int .i64 m1, .int .i64 m2, .int .i64 m3, .int .u32 m4, .int .i64 n0, .int .i64 n1, .int .i64 n2, .int .i64 n3, .int .u32 n4, .int .i64 p0, .int .i64 p1, .int .i64 p2, .int .i64 p3, .int .u32 p4] 52) b2 (by rw [z]; omega), r2, by simp; omega, by simp⟩)
  rw [← hMB, ← hNB]
  clear hgA hNB hMB
  go_upto_region 4 with (first
    | (go_at_call 7; (with_reducible refine (gs_first vs vr _ (HE.out.below HA.out.bel)).mono ?_); rintro e w1 ⟨rfl, hb⟩; have H := Lib.hid (HA.out.below hb); clear hb))
  clear HA
  go_upto_region 5 with fail
  refine wp_loop_rounds 4 ?_
  rw [rounds_succ]
  have x0 := CallC.cell H.out.n 4 _ rfl
  have x1 := CallC.cell H.out.n 5 _ rfl
  have x2 := CallC.cell H.out.n 6 _ rfl
  have x3 := CallC.cell H.out.n 7 _ rfl
  have x4 := CallC.cell H.out.n 8 _ rfl
  have y0 := CallC.cell H.out.m 4 _ rfl
  have y1 := CallC.cell H.out.m 5 _ rfl
  have y2 := CallC.cell H.out.m 6 _ rfl
  have y3 := CallC.cell H.out.m 7 _ rfl
  have y4 := CallC.cell H.out.m 8 _ rfl
  rcases Bool.eq_false_or_eq_true (cm != 0) with e1 | e1
  · go_wp2_with (first | (go_at_call 20; (with_reducible refine (HVm.out _).mono ?_); rintro e wv ⟨rfl, hb⟩; have H := Lib.hid (H.out.below hb); clear hb x0 x1 x2 x3 x4 y0 y1 y2 y3 y4; have y0 := CallC.cell H.out.m 4 _ rfl; have y1 := CallC.cell H.out.m 5 _ rfl; have y2 := CallC.cell H.out.m 6 _ rfl; have y3 := CallC.cell H.out.m 7 _ rfl; have y4 := CallC.cell H.out.m 8 _ rfl) | (go_at_call 20; (with_reducible refine (HVq.out _).mono ?_); rintro e wv ⟨rfl, hb⟩; have H := Lib.hid (H.out.below hb); clear hb y0 y1 y2 y3 y4))
    go_ret
    exact ⟨rfl, H.out.bel⟩
  rcases Bool.eq_false_or_eq_true (cq != 0) with e2 | e2
  · go_wp2_with (first | (go_at_call 20; (with_reducible refine (HVm.out _).mono ?_); rintro e wv ⟨rfl, hb⟩; have H := Lib.hid (H.out.below hb); clear hb x0 x1 x2 x3 x4 y0 y1 y2 y3 y4; have y0 := CallC.cell H.out.m 4 _ rfl; have y1 := CallC.cell H.out.m 5 _ rfl; have y2 := CallC.cell H.out.m 6 _ rfl; have y3 := CallC.cell H.out.m 7 _ rfl; have y4 := CallC.cell H.out.m 8 _ rfl) | (go_at_call 20; (with_reducible refine (HVq.out _).mono ?_); rintro e wv ⟨rfl, hb⟩; have H := Lib.hid (H.out.below hb); clear hb y0 y1 y2 y3 y4))
    go_ret
    exact ⟨rfl, H.out.bel⟩
  go_wp2_with (first | (go_at_call 20; (with_reducible refine (HVm.out _).mono ?_); rintro e wv ⟨rfl, hb⟩; have H := Lib.hid (H.out.below hb); clear hb x0 x1 x2 x3 x4 y0 y1 y2 y3 y4; have y0 := CallC.cell H.out.m 4 _ rfl; have y1 := CallC.cell H.out.m 5 _ rfl; have y2 := CallC.cell H.out.m 6 _ rfl; have y3 := CallC.cell H.out.m 7 _ rfl; have y4 := CallC.cell H.out.m 8 _ rfl) | (go_at_call 20; (with_reducible refine (HVq.out _).mono ?_); rintro e wv ⟨rfl, hb⟩; have H := Lib.hid (H.out.below hb); clear hb y0 y1 y2 y3 y4))
  have Em := Lib.hid e1
  have Eq := Lib.hid e2
  clear e1 e2
  rw [rounds_succ]
  have x0 := CallC.cell H.out.n 9 _ rfl
  have x1 := CallC.cell H.out.n 10 _ rfl
  have x2 := CallC.cell H.out.n 11 _ rfl
  have x3 := CallC.cell H.out.n 12 _ rfl
  have x4 := CallC.cell H.out.n 13 _ rfl
  have y0 := CallC.cell H.out.m 9 _ rfl
  have y1 := CallC.cell H.out.m 10 _ rfl
  have y2 := CallC.cell H.out.m 11 _ rfl
  have y3 := CallC.cell H.out.m 12 _ rfl
  have y4 := CallC.cell H.out.m 13 _ rfl
  rcases Bool.eq_false_or_eq_true (cn != 0) with e1 | e1
  · go_wp2_with (first | (go_at_call 20; (with_reducible refine (HVn.out _).mono ?_); rintro e wv ⟨rfl, hb⟩; have H := Lib.hid (H.out.below hb); clear hb x0 x1 x2 x3 x4 y0 y1 y2 y3 y4; have y0 := CallC.cell H.out.m 9 _ rfl; have y1 := CallC.cell H.out.m 10 _ rfl; have y2 := CallC.cell H.out.m 11 _ rfl; have y3 := CallC.cell H.out.m 12 _ rfl; have y4 := CallC.cell H.out.m 13 _ rfl) | (go_at_call 20; (with_reducible refine (HVr.out _).mono ?_); rintro e wv ⟨rfl, hb⟩; have H := Lib.hid (H.out.below hb); clear hb y0 y1 y2 y3 y4))
    go_ret
    exact ⟨rfl, H.out.bel⟩
  rcases Bool.eq_false_or_eq_true (cr != 0) with e2 | e2
  · go_wp2_with (first | (go_at_call 20; (with_reducible refine (HVn.out _).mono ?_); rintro e wv ⟨rfl, hb⟩; have H := Lib.hid (H.out.below hb); clear hb x0 x1 x2 x3 x4 y0 y1 y2 y3 y4; have y0 := CallC.cell H.out.m 9 _ rfl; have y1 := CallC.cell H.out.m 10 _ rfl; have y2 := CallC.cell H.out.m 11 _ rfl; have y3 := CallC.cell H.out.m 12 _ rfl; have y4 := CallC.cell H.out.m 13 _ rfl) | (go_at_call 20; (with_reducible refine (HVr.out _).mono ?_); rintro e wv ⟨rfl, hb⟩; have H := Lib.hid (H.out.below hb); clear hb y0 y1 y2 y3 y4))
    go_ret
    exact ⟨rfl, H.out.bel⟩
  go_wp2_with (first | (go_at_call 20; (with_reducible refine (HVn.out _).mono ?_); rintro e wv ⟨rfl, hb⟩; have H := Lib.hid (H.out.below hb); clear hb x0 x1 x2 x3 x4 y0 y1 y2 y3 y4; have y0 := CallC.cell H.out.m 9 _ rfl; have y1 := CallC.cell H.out.m 10 _ rfl; have y2 := CallC.cell H.out.m 11 _ rfl; have y3 := CallC.cell H.out.m 12 _ rfl; have y4 := CallC.cell H.out.m 13 _ rfl) | (go_at_call 20; (with_reducible refine (HVr.out _).mono ?_); rintro e wv ⟨rfl, hb⟩; have H := Lib.hid (H.out.below hb); clear hb y0 y1 y2 y3 y4))
  have En := Lib.hid e1
  have Er := Lib.hid e2
  clear e1 e2
  rw [rounds_succ]
  have x0 := CallC.cell H.out.n 14 _ rfl
  have x1 := CallC.cell H.out.n 15 _ rfl
  have x2 := CallC.cell H.out.n 16 _ rfl
  have x3 := CallC.cell H.out.n 17 _ rfl
  have x4 := CallC.cell H.out.n 18 _ rfl
  have y0 := CallC.cell H.out.m 14 _ rfl
  have y1 := CallC.cell H.out.m 15 _ rfl
  have y2 := CallC.cell H.out.m 16 _ rfl
  have y3 := CallC.cell H.out.m 17 _ rfl
  have y4 := CallC.cell H.out.m 18 _ rfl
  rcases Bool.eq_false_or_eq_true (cp != 0) with e1 | e1
  · go_wp2_with (first | (go_at_call 20; (with_reducible refine (HVp.out _).mono ?_); rintro e wv ⟨rfl, hb⟩; have H := Lib.hid (H.out.below hb); clear hb x0 x1 x2 x3 x4 y0 y1 y2 y3 y4; have y0 := CallC.cell H.out.m 14 _ rfl; have y1 := CallC.cell H.out.m 15 _ rfl; have y2 := CallC.cell H.out.m 16 _ rfl; have y3 := CallC.cell H.out.m 17 _ rfl; have y4 := CallC.cell H.out.m 18 _ rfl) | (go_at_call 20; (with_reducible refine (HVs.out _).mono ?_); rintro e wv ⟨rfl, hb⟩; have H := Lib.hid (H.out.below hb); clear hb y0 y1 y2 y3 y4))
    go_ret
    exact ⟨rfl, H.out.bel⟩
  rcases Bool.eq_false_or_eq_true (cs != 0) with e2 | e2
  · go_wp2_with (first | (go_at_call 20; (with_reducible refine (HVp.out _).mono ?_); rintro e wv ⟨rfl, hb⟩; have H := Lib.hid (H.out.below hb); clear hb x0 x1 x2 x3 x4 y0 y1 y2 y3 y4; have y0 := CallC.cell H.out.m 14 _ rfl; have y1 := CallC.cell H.out.m 15 _ rfl; have y2 := CallC.cell H.out.m 16 _ rfl; have y3 := CallC.cell H.out.m 17 _ rfl; have y4 := CallC.cell H.out.m 18 _ rfl) | (go_at_call 20; (with_reducible refine (HVs.out _).mono ?_); rintro e wv ⟨rfl, hb⟩; have H := Lib.hid (H.out.below hb); clear hb y0 y1 y2 y3 y4))
    go_ret
    exact ⟨rfl, H.out.bel⟩
  go_wp2_with (first | (go_at_call 20; (with_reducible refine (HVp.out _).mono ?_); rintro e wv ⟨rfl, hb⟩; have H := Lib.hid (H.out.below hb); clear hb x0 x1 x2 x3 x4 y0 y1 y2 y3 y4; have y0 := CallC.cell H.out.m 14 _ rfl; have y1 := CallC.cell H.out.m 15 _ rfl; have y2 := CallC.cell H.out.m 16 _ rfl; have y3 := CallC.cell H.out.m 17 _ rfl; have y4 := CallC.cell H.out.m 18 _ rfl) | (go_at_call 20; (with_reducible refine (HVs.out _).mono ?_); rintro e wv ⟨rfl, hb⟩; have H := Lib.hid (H.out.below hb); clear hb y0 y1 y2 y3 y4))
  have Ep := Lib.hid e1
  have Es := Lib.hid e2
  clear e1 e2
  rw [rounds_succ]
  have HEv := Lib.hid (HE.out.below H.out.bel)
  have b00 := HBD.out.1
  go_upto_region 11 with (first
    | (go_at_call 9; (with_reducible refine (two_is vs vr _ HEv.out).mono ?_); rintro e w3 ⟨L, X, rfl, hg⟩; have H3 := Lib.hid hg; clear hg))
  go_upto_region 12 with fail
  generalize hgA : World.alloc w3 _ = w4
  obtain ⟨SB, hSB⟩ : ∃ SB, SB = w3.heap.size := ⟨_, rfl⟩
  have H4 : Hid (SS wv w4 L X SB [.int .i64 0, .int .i64 0, .int .i64 0, .int .i64 0, .int .u32 0, .int .i64 0, .int .i64 0, .int .i64 0, .int .i64 0, .int .u32 0, .int .i64 0, .int .i64 0, .int .i64 0, .int .i64 0, .int .u32 0]) := Lib.hid (by
    rw [← hgA, hSB]
    exact ⟨H3.out.more ((Below.refl _ _).alloc (Nat.le_refl _) _) _ (Nat.le_refl _) (by simp), cbox w3 [.int .i64 0, .int .i64 0, .int .i64 0, .int .i64 0, .int .u32 0, .int .i64 0, .int .i64 0, .int .i64 0, .int .i64 0, .int .u32 0, .int .i64 0, .int .i64 0, .int .i64 0, .int .i64 0, .int .u32 0] _, nthere_new _ _ 15 (by rfl) _, H3.out.xs.1⟩)
  rw [← hSB]
  clear hgA hSB
  have h0 : codeOf m0 m1 m2 m3 m4 = 0 := by have h1 := Em.out; have h2 := HCm.out; rw [← h2]; simpa using h1
  obtain ⟨u0, u1, u2, u3, u4, hr1, hs1, hs2⟩ := seen_g (w0 := wv) (L := L) (X := X) f1_rows vs vr HEv.out m0 m1 m2 m3 m4 h0 HGG.out.1.1
  have HRu := Lib.hid hr1
  have HSu := Lib.hid hs1
  have HTu := Lib.hid hs2
  clear h0 hr1 hs1 hs2
  have h0 : codeOf n0 n1 n2 n3 n4 = 0 := by have h1 := En.out; have h2 := HCn.out; rw [← h2]; simpa using h1
  obtain ⟨v0, v1, v2, v3, v4, hr1, hs1, hs2⟩ := seen_g (w0 := wv) (L := L) (X := X) f1_rows vs vr HEv.out n0 n1 n2 n3 n4 h0 HGG.out.2.1.1
  have HRv := Lib.hid hr1
  have HSv := Lib.hid hs1
  have HTv := Lib.hid hs2
  clear h0 hr1 hs1 hs2
  have h0 : codeOf p0 p1 p2 p3 p4 = 0 := by have h1 := Ep.out; have h2 := HCp.out; rw [← h2]; simpa using h1
  obtain ⟨z0, z1, z2, z3, z4, hr1, hs1, hs2⟩ := seen_g (w0 := wv) (L := L) (X := X) f1_rows vs vr HEv.out p0 p1 p2 p3 p4 h0 HGG.out.2.2.1.1
  have HRz := Lib.hid hr1
  have HSz := Lib.hid hs1
  have HTz := Lib.hid hs2
  clear h0 hr1 hs1 hs2
  go_upto_region 13 with fail
  refine wp_loop_rounds 4 ?_
  rw [rounds_succ]
  have x0 := CallC.cell (H.out.below H4.out.gs.bel).n 4 _ rfl
  have x1 := CallC.cell (H.out.below H4.out.gs.bel).n 5 _ rfl
  have x2 := CallC.cell (H.out.below H4.out.gs.bel).n 6 _ rfl
  have x3 := CallC.cell (H.out.below H4.out.gs.bel).n 7 _ rfl
  have x4 := CallC.cell (H.out.below H4.out.gs.bel).n 8 _ rfl
  go_wp2_with (first
    | (go_at_call 21; (with_reducible refine (HSu.out _ _ _ _ H4.out.gs).mono ?_); rintro e w5 ⟨rfl, hb⟩; have H5 := Lib.hid (H4.out.below hb); have HT5 : Hid (World.there w5 SB 0 5) := Lib.hid (fun j hj => by have h := H5.out.t (0 + j) (by omega); rwa [Nat.zero_add] at h); clear hb x0 x1 x2 x3 x4 H4)
    | (refine wpList_store_mid (by rfl) _ _ _ (by rfl) SB 0 #[.int .i64 u0, .int .i64 u1, .int .i64 u2, .int .i64 u3, .int .u32 u4] (by rfl) (by rfl) HT5.out keyInfo5 (by simp [Value.oneCell']) ?_; generalize hg : World.setCells w5 SB 0 _ = w6; have H4 := Lib.hid (show SS wv w6 L X SB [.int .i64 u0, .int .i64 u1, .int .i64 u2, .int .i64 u3, .int .u32 u4, .int .i64 0, .int .i64 0, .int .i64 0, .int .i64 0, .int .u32 0, .int .i64 0, .int .i64 0, .int .i64 0, .int .i64 0, .int .u32 0] by rw [← hg]; exact H5.out.put 0 _ _ _ _ _); clear hg HT5 H5))
  rw [rounds_succ]
  have x0 := CallC.cell (H.out.below H4.out.gs.bel).n 9 _ rfl
  have x1 := CallC.cell (H.out.below H4.out.gs.bel).n 10 _ rfl
  have x2 := CallC.cell (H.out.below H4.out.gs.bel).n 11 _ rfl
  have x3 := CallC.cell (H.out.below H4.out.gs.bel).n 12 _ rfl
  have x4 := CallC.cell (H.out.below H4.out.gs.bel).n 13 _ rfl
  go_wp2_with (first
    | (go_at_call 21; (with_reducible refine (HSv.out _ _ _ _ H4.out.gs).mono ?_); rintro e w5 ⟨rfl, hb⟩; have H5 := Lib.hid (H4.out.below hb); have HT5 : Hid (World.there w5 SB 5 5) := Lib.hid (fun j hj => by have h := H5.out.t (5 + j) (by omega); rwa [Nat.zero_add] at h); clear hb x0 x1 x2 x3 x4 H4)
    | (refine wpList_store_mid (by rfl) _ _ _ (by rfl) SB 5 #[.int .i64 v0, .int .i64 v1, .int .i64 v2, .int .i64 v3, .int .u32 v4] (by rfl) (by rfl) HT5.out keyInfo5 (by simp [Value.oneCell']) ?_; generalize hg : World.setCells w5 SB 5 _ = w6; have H4 := Lib.hid (show SS wv w6 L X SB [.int .i64 u0, .int .i64 u1, .int .i64 u2, .int .i64 u3, .int .u32 u4, .int .i64 v0, .int .i64 v1, .int .i64 v2, .int .i64 v3, .int .u32 v4, .int .i64 0, .int .i64 0, .int .i64 0, .int .i64 0, .int .u32 0] by rw [← hg]; exact H5.out.put 5 _ _ _ _ _); clear hg HT5 H5))
  rw [rounds_succ]
  have x0 := CallC.cell (H.out.below H4.out.gs.bel).n 14 _ rfl
  have x1 := CallC.cell (H.out.below H4.out.gs.bel).n 15 _ rfl
  have x2 := CallC.cell (H.out.below H4.out.gs.bel).n 16 _ rfl
  have x3 := CallC.cell (H.out.below H4.out.gs.bel).n 17 _ rfl
  have x4 := CallC.cell (H.out.below H4.out.gs.bel).n 18 _ rfl
  go_wp2_with (first
    | (go_at_call 21; (with_reducible refine (HSz.out _ _ _ _ H4.out.gs).mono ?_); rintro e w5 ⟨rfl, hb⟩; have H5 := Lib.hid (H4.out.below hb); have HT5 : Hid (World.there w5 SB 10 5) := Lib.hid (fun j hj => by have h := H5.out.t (10 + j) (by omega); rwa [Nat.zero_add] at h); clear hb x0 x1 x2 x3 x4 H4)
    | (refine wpList_store_mid (by rfl) _ _ _ (by rfl) SB 10 #[.int .i64 z0, .int .i64 z1, .int .i64 z2, .int .i64 z3, .int .u32 z4] (by rfl) (by rfl) HT5.out keyInfo5 (by simp [Value.oneCell']) ?_; generalize hg : World.setCells w5 SB 10 _ = w6; have H4 := Lib.hid (show SS wv w6 L X SB [.int .i64 u0, .int .i64 u1, .int .i64 u2, .int .i64 u3, .int .u32 u4, .int .i64 v0, .int .i64 v1, .int .i64 v2, .int .i64 v3, .int .u32 v4, .int .i64 z0, .int .i64 z1, .int .i64 z2, .int .i64 z3, .int .u32 z4] by rw [← hg]; exact H5.out.put 10 _ _ _ _ _); clear hg HT5 H5))
  rw [rounds_succ]
  go_upto_region 16 with fail
  clear b00
  have HSS := H4
  clear H4 H3
  obtain ⟨F2, hF2⟩ : ∃ F2, F2 = setF (setF F1 0 (RW (fun _ => 0) 0 2 0 (fun _ _ => 0) (0 + 1))) 1 (RW (tRg (fun _ => 0) o a b c (bd % 1000)) 0 3 0 (tKk (fun _ _ => 0) u0 u1 u2 u3 u4 v0 v1 v2 v3 v4 z0 z1 z2 z3 z4 6 0 0 0 (0 + 1)) 0) := ⟨_, rfl⟩
  have HIV : Hid (∀ W A, GS wv W L X 4 0 A F1 [] → Calls Tryz.prog 12 #[.pointer (some ⟨X.s, 0, none⟩), .int .i64 0, .int .i64 0, (Value.agg #[.int .i64 5, .int .i64 1, .int .i64 0, .int .i64 0, .int .u32 (bd % 1000)]), (Value.agg #[.int .u32 o, .int .u32 a, .int .u32 b, .int .u32 c, .int .i64 m0, .int .i64 m1, .int .i64 m2, .int .i64 m3, .int .u32 m4, .int .i64 n0, .int .i64 n1, .int .i64 n2, .int .i64 n3, .int .u32 n4, .int .i64 p0, .int .i64 p1, .int .i64 p2, .int .i64 p3, .int .u32 p4])] W fun e w' => e = .returned (.tuple #[.agg ([.int .i64 1, .int .i64 1, .int .u32 0, .int .u32 0, .int .u32 0, .int .u32 0, .int .i64 0, .int .i64 0, .int .i64 0, .int .i64 0, .int .u32 0, .int .i64 0, .int .i64 0, .int .i64 0, .int .i64 0, .int .u32 0, .int .i64 0, .int .i64 0, .int .i64 0, .int .i64 0, .int .u32 0] : List Value).toArray, .nilIface]) ∧ GS wv w' L X 4 1 A F2 [1] ∧ GK A W w') := Lib.hid (fun W A hg => by
    rw [hF2]
    exact gi_call hg 1 1 (Lib.hid rfl) (by decide) (fun _ => 0) 0 0 (fun _ _ => 0) 0 (Lib.hid rfl) (Lib.hid (fun _ _ => (show rightB 0 0 0 0 0 = true by decide))) (by decide) (by decide) (by decide) (by decide) 0 0 (Lib.hid rfl) (by decide) (by decide) (fun _ => 0) 0 0 (fun _ _ => 0) 0 (Lib.hid rfl) (Lib.hid (fun _ _ => (show rightB 0 0 0 0 0 = true by decide))) (by decide) (by decide) (by decide) (by decide) vs vr HEv.out (by unfold V.wfI; decide) (by unfold V.wfI; decide) (by decide) (by decide) (bd % 1000) (right_start1 _ (by omega)) (by decide) o a b c m0 m1 m2 m3 m4 n0 n1 n2 n3 n4 p0 p1 p2 p3 p4 u0 u1 u2 u3 u4 v0 v1 v2 v3 v4 z0 z1 z2 z3 z4 HRu.out HRv.out HRz.out HSu.out HSv.out HSz.out HTu.out HTv.out HTz.out)
  have HDO : Hid (∀ W A, GS wv W L X 4 0 A F1 [] → Calls Tryz.prog 15 #[.pointer (some ⟨L.dP, 0, none⟩), .int .i64 1, .int .u32 (bd % 1000)] W fun e w' => e = .returned (Value.agg #[.int .i64 5, .int .i64 1, .int .i64 0, .int .i64 0, .int .u32 (bd % 1000)]) ∧ Below W.heap.size W w') := Lib.hid (fun W A hg => hg.door 1 1 (Lib.hid rfl) (by decide) (bd % 1000) (by omega))
  have HF2 := Lib.hid hF2
  clear hF2
  go_cut [12, 13] (fun y1 y2 wx => ∃ RB, y1 = .pointer (some ⟨RB, 0, none⟩) ∧ y2 = .nilIface ∧ GS wv wx L X 4 1 [SB] F2 [1] ∧ wx.rangeAt RB 0 ([.int .i64 1, .int .i64 1, .int .u32 0, .int .u32 0, .int .u32 0, .int .u32 0, .int .i64 0, .int .i64 0, .int .i64 0, .int .i64 0, .int .u32 0, .int .i64 0, .int .i64 0, .int .i64 0, .int .i64 0, .int .u32 0, .int .i64 0, .int .i64 0, .int .i64 0, .int .i64 0, .int .u32 0] : List Value) ∧ wx.rangeAt SB 0 [.int .i64 u0, .int .i64 u1, .int .i64 u2, .int .i64 u3, .int .u32 u4, .int .i64 v0, .int .i64 v1, .int .i64 v2, .int .i64 v3, .int .u32 v4, .int .i64 z0, .int .i64 z1, .int .i64 z2, .int .i64 z3, .int .u32 z4])
  case first =>
    obtain ⟨wD, hwD⟩ : ∃ wD, wD = w6.drew := ⟨_, rfl⟩
    have HD0 := Lib.hid (HSS.out.below (show Below w6.heap.size w6 wD by rw [hwD]; exact (Below.refl _ _).drew))
    have HS1 : Hid (∀ (W : World) (B : Nat) (A : List Nat) (F : Nat → Nat → Value) (l : List Int), GS wv W L X 4 B A F l → (World.cell? W ⟨X.s, 1, none⟩ = some (.pointer (some ⟨L.dP, 0, none⟩)) ∧ World.rangeAt W NB 0 [.int .u32 o, .int .u32 a, .int .u32 b, .int .u32 c, .int .i64 m0, .int .i64 m1, .int .i64 m2, .int .i64 m3, .int .u32 m4, .int .i64 n0, .int .i64 n1, .int .i64 n2, .int .i64 n3, .int .u32 n4, .int .i64 p0, .int .i64 p1, .int .i64 p2, .int .i64 p3, .int .u32 p4])) := Lib.hid (fun W B A F l hg => ⟨hg.c1, (H.out.below hg.bel).n⟩)
    clear HSS HBD HGG HEv HE
    refine wp_region_noPanic ?_
    refine wp_region_held_drew (S := fun w' => (World.cell? w' ⟨X.s, 1, none⟩ = some (.pointer (some ⟨L.dP, 0, none⟩)) ∧ World.rangeAt w' NB 0 [.int .u32 o, .int .u32 a, .int .u32 b, .int .u32 c, .int .i64 m0, .int .i64 m1, .int .i64 m2, .int .i64 m3, .int .u32 m4, .int .i64 n0, .int .i64 n1, .int .i64 n2, .int .i64 n3, .int .u32 n4, .int .i64 p0, .int .i64 p1, .int .i64 p2, .int .i64 p3, .int .u32 p4])) (by kernel_rfl) (by rw [← hwD]; exact HS1.out _ _ _ _ _ HD0.out.gs) (fun hHeld => ?_)
    rw [← hwD] at hHeld ⊢
    clear hwD
    refine wpAnyH_take (i := 0) (v := ?_) (by rfl) (by kernel_rfl) (by kernel_rfl) (by kernel_rfl) (fun _ _ _ h => h) (Or.inl ⟨by kernel_rfl, ?_⟩) (by assumption) ?_; rotate_left 1; (focus (intro w hSw; (try dsimp only at hSw); simp only [List.getElem_toArray, List.getElem_cons_succ, List.getElem_cons_zero]; all_goals go_simp; all_goals (try with_reducible rfl))); (try simp only [Act.put, List.getElem_toArray, List.getElem_cons_succ, List.getElem_cons_zero, List.setIfInBounds_toArray, List.set_cons_zero, List.set_cons_succ])
    refine wpAnyH_take (i := 1) (v := ?_) (by rfl) (by kernel_rfl) (by kernel_rfl) (by kernel_rfl) (fun _ _ _ h => h) (Or.inl ⟨by kernel_rfl, ?_⟩) (by assumption) ?_; rotate_left 1; (focus (intro w hSw; (try dsimp only at hSw); simp only [List.getElem_toArray, List.getElem_cons_succ, List.getElem_cons_zero]; all_goals go_simp; all_goals (try with_reducible rfl))); (try simp only [Act.put, List.getElem_toArray, List.getElem_cons_succ, List.getElem_cons_zero, List.setIfInBounds_toArray, List.set_cons_zero, List.set_cons_succ])
    refine wpAnyH_take (i := 2) (v := ?_) (by rfl) (by kernel_rfl) (by kernel_rfl) (by kernel_rfl) (fun _ _ _ h => h) (Or.inl ⟨by kernel_rfl, ?_⟩) (by assumption) ?_; rotate_left 1; (focus (intro w hSw; (try dsimp only at hSw); simp only [List.getElem_toArray, List.getElem_cons_succ, List.getElem_cons_zero]; all_goals go_simp; all_goals (try with_reducible rfl))); (try simp only [Act.put, List.getElem_toArray, List.getElem_cons_succ, List.getElem_cons_zero, List.setIfInBounds_toArray, List.set_cons_zero, List.set_cons_succ])
    refine wpAnyH_take (i := 3) (v := ?_) (by rfl) (by kernel_rfl) (by kernel_rfl) (by kernel_rfl) (fun _ _ _ h => h) (Or.inl ⟨by kernel_rfl, ?_⟩) (by assumption) ?_; rotate_left 1; (focus (intro w hSw; (try dsimp only at hSw); simp only [List.getElem_toArray, List.getElem_cons_succ, List.getElem_cons_zero]; all_goals go_simp; all_goals (try with_reducible rfl))); (try simp only [Act.put, List.getElem_toArray, List.getElem_cons_succ, List.getElem_cons_zero, List.setIfInBounds_toArray, List.set_cons_zero, List.set_cons_succ])
    refine wpAnyH_take (i := 4) (v := ?_) (by rfl) (by kernel_rfl) (by kernel_rfl) (by kernel_rfl) (fun _ _ _ h => h) (Or.inl ⟨by kernel_rfl, ?_⟩) (by assumption) ?_; rotate_left 1; (focus (intro w hSw; (try dsimp only at hSw); simp only [List.getElem_toArray, List.getElem_cons_succ, List.getElem_cons_zero]; all_goals go_simp; all_goals (try with_reducible rfl))); (try simp only [Act.put, List.getElem_toArray, List.getElem_cons_succ, List.getElem_cons_zero, List.setIfInBounds_toArray, List.set_cons_zero, List.set_cons_succ])
    refine wpAnyH_take (i := 5) (v := ?_) (by rfl) (by kernel_rfl) (by kernel_rfl) (by kernel_rfl) (fun _ _ _ h => h) (Or.inl ⟨by kernel_rfl, ?_⟩) (by assumption) ?_; rotate_left 1; (focus (intro w hSw; (try dsimp only at hSw); simp only [List.getElem_toArray, List.getElem_cons_succ, List.getElem_cons_zero]; all_goals go_simp; all_goals (try with_reducible rfl))); (try simp only [Act.put, List.getElem_toArray, List.getElem_cons_succ, List.getElem_cons_zero, List.setIfInBounds_toArray, List.set_cons_zero, List.set_cons_succ])
    refine wpAnyH_take (i := 7) (v := (Value.agg #[.int .u32 o, .int .u32 a, .int .u32 b, .int .u32 c, .int .i64 m0, .int .i64 m1, .int .i64 m2, .int .i64 m3, .int .u32 m4, .int .i64 n0, .int .i64 n1, .int .i64 n2, .int .i64 n3, .int .u32 n4, .int .i64 p0, .int .i64 p1, .int .i64 p2, .int .i64 p3, .int .u32 p4])) (by rfl) (by kernel_rfl) (by kernel_rfl) (by kernel_rfl) (fun _ _ _ h => h) (Or.inl ⟨by kernel_rfl, ?_⟩) (by assumption) ?_
    focus
      intro w hSw
      exact nload_exec (Operand.tmp 3) (by rfl) (by rfl) (by rfl) hSw.2
    (try simp only [Act.put, List.getElem_toArray, List.getElem_cons_succ, List.getElem_cons_zero, List.setIfInBounds_toArray, List.set_cons_zero, List.set_cons_succ])
    refine wpAnyH_ready (rs := [6, 12]) (by kernel_rfl) (by simp) ?_
    refine AllReadyH.cons (by rfl) (fun K1 hK => ?_) (AllReadyH.cons (by rfl) (fun K1 hK => ?_) AllReadyH.nil)
    · rw [if_pos (by kernel_rfl)]; simp only [List.getElem_toArray, List.getElem_cons_succ, List.getElem_cons_zero]
      go_wp2_with (first | (go_at_call 15; (with_reducible refine (HDO.out _ _ HD0.out.gs).mono ?_); rintro e w7 ⟨rfl, hb⟩; have H7 := Lib.hid (HD0.out.below hb); clear hb))
      refine hK.out _ _ (HS1.out _ _ _ _ _ H7.out.gs) (fun hHeld => ?_)
      clear hK K1
      (try simp only [Act.put, List.getElem_toArray, List.getElem_cons_succ, List.getElem_cons_zero, List.setIfInBounds_toArray, List.set_cons_zero, List.set_cons_succ])
      refine wpAnyH_ready (rs := [8, 12]) (by kernel_rfl) (by simp) ?_
      refine AllReadyH.cons (by rfl) (fun K1 hK => ?_) (AllReadyH.cons (by rfl) (fun K1 hK => ?_) AllReadyH.nil)
      · rw [if_pos (by kernel_rfl)]; simp only [List.getElem_toArray, List.getElem_cons_succ, List.getElem_cons_zero]
        go_wp2_with (first | (go_at_call 12; (with_reducible refine (HIV.out _ _ H7.out.gs).mono ?_); rintro e w8 ⟨rfl, hg, hk⟩; have H8 := Lib.hid (And.intro hg (range_same H7.out.r (hk.eq SB (by simp)))); clear hg hk))
        refine hK.out _ _ (HS1.out _ _ _ _ _ H8.out.1) (fun hHeld => ?_)
        clear hK K1
        (try simp only [Act.put, List.getElem_toArray, List.getElem_cons_succ, List.getElem_cons_zero, List.setIfInBounds_toArray, List.set_cons_zero, List.set_cons_succ])
        refine wpAnyH_take (i := 9) (v := ?_) (by rfl) (by kernel_rfl) (by kernel_rfl) (by kernel_rfl) (fun _ _ _ h => h) (Or.inl ⟨by kernel_rfl, ?_⟩) (by assumption) ?_; rotate_left 1; (focus (intro w hSw; (try dsimp only at hSw); simp only [List.getElem_toArray, List.getElem_cons_succ, List.getElem_cons_zero]; all_goals go_simp; all_goals (try with_reducible rfl))); (try simp only [Act.put, List.getElem_toArray, List.getElem_cons_succ, List.getElem_cons_zero, List.setIfInBounds_toArray, List.set_cons_zero, List.set_cons_succ])
        refine wpAnyH_take (i := 10) (v := ?_) (by rfl) (by kernel_rfl) (by kernel_rfl) (by kernel_rfl) (fun _ _ _ h => h) (Or.inl ⟨by kernel_rfl, ?_⟩) (by assumption) ?_; rotate_left 1; (focus (intro w hSw; (try dsimp only at hSw); simp only [List.getElem_toArray, List.getElem_cons_succ, List.getElem_cons_zero]; all_goals go_simp; all_goals (try with_reducible rfl))); (try simp only [Act.put, List.getElem_toArray, List.getElem_cons_succ, List.getElem_cons_zero, List.setIfInBounds_toArray, List.set_cons_zero, List.set_cons_succ])
        refine wpAnyH_take (i := 11) (v := ?_) (by rfl) (by kernel_rfl) (by kernel_rfl) (by kernel_rfl) (fun _ _ _ h => h) (Or.inl ⟨by kernel_rfl, ?_⟩) (by assumption) ?_; rotate_left 1; (focus (intro w hSw; (try dsimp only at hSw); simp only [List.getElem_toArray, List.getElem_cons_succ, List.getElem_cons_zero]; all_goals go_simp; all_goals (try with_reducible rfl))); (try simp only [Act.put, List.getElem_toArray, List.getElem_cons_succ, List.getElem_cons_zero, List.setIfInBounds_toArray, List.set_cons_zero, List.set_cons_succ])
        refine wpAnyH_ready (rs := [12]) (by kernel_rfl) (by simp) ?_; refine AllReadyH.cons (by rfl) (fun K hK => ?_) AllReadyH.nil; rw [if_pos (by kernel_rfl)]; simp only [List.getElem_toArray, List.getElem_cons_succ, List.getElem_cons_zero]
        go_wp2_with fail
        generalize hE : World.alloc w8 _ = w9
        obtain ⟨RB, hRB⟩ : ∃ RB, RB = w8.heap.size := ⟨_, rfl⟩
        have H9 : Hid (GS wv w9 L X 4 1 [RB, SB] F2 [1] ∧ w9.rangeAt SB 0 [.int .i64 u0, .int .i64 u1, .int .i64 u2, .int .i64 u3, .int .u32 u4, .int .i64 v0, .int .i64 v1, .int .i64 v2, .int .i64 v3, .int .u32 v4, .int .i64 z0, .int .i64 z1, .int .i64 z2, .int .i64 z3, .int .u32 z4] ∧ World.there w9 RB 0 21) := Lib.hid (by
          rw [← hE, hRB]
          exact ⟨H8.out.1.more ((Below.refl _ _).alloc (Nat.le_refl _) _) _ (Nat.le_refl _) (by simp), range_below H8.out.2 ((Below.refl _ _).alloc (Nat.le_refl _) _) (H8.out.1.a SB (by simp)).1, nthere_new _ _ 21 (by rfl) _⟩)
        have HXR : Hid (X.s < RB) := Lib.hid (by rw [hRB]; exact H8.out.1.xs.1)
        have HSR : Hid (SB ≠ RB) := Lib.hid (by rw [hRB]; have := (H8.out.1.a SB (by simp)).1; omega)
        rw [← hRB]
        clear hE hRB
        refine hK.out _ _ (HS1.out _ _ _ _ _ H9.out.1) (fun hHeld => ?_)
        clear hK K
        (try simp only [Act.put, List.getElem_toArray, List.getElem_cons_succ, List.getElem_cons_zero, List.setIfInBounds_toArray, List.set_cons_zero, List.set_cons_succ])
        refine wpAnyH_ready (rs := [13]) (by kernel_rfl) (by simp) ?_; refine AllReadyH.cons (by rfl) (fun K hK => ?_) AllReadyH.nil; rw [if_pos (by kernel_rfl)]; simp only [List.getElem_toArray, List.getElem_cons_succ, List.getElem_cons_zero]
        refine wp_store_mid 54 (Operand.tmp 12) (Operand.tmp 71) (by rfl) RB 0 ([.int .i64 1, .int .i64 1, .int .u32 0, .int .u32 0, .int .u32 0, .int .u32 0, .int .i64 0, .int .i64 0, .int .i64 0, .int .i64 0, .int .u32 0, .int .i64 0, .int .i64 0, .int .i64 0, .int .i64 0, .int .u32 0, .int .i64 0, .int .i64 0, .int .i64 0, .int .i64 0, .int .u32 0] : List Value).toArray (by rfl) (by rfl) H9.out.2.2 resInfo (by simp [Value.oneCell']) ?_
        generalize hE : World.setCells w9 _ _ _ = w10
        have H10 : Hid (GS wv w10 L X 4 1 [RB, SB] F2 [1] ∧ w10.rangeAt SB 0 [.int .i64 u0, .int .i64 u1, .int .i64 u2, .int .i64 u3, .int .u32 u4, .int .i64 v0, .int .i64 v1, .int .i64 v2, .int .i64 v3, .int .u32 v4, .int .i64 z0, .int .i64 z1, .int .i64 z2, .int .i64 z3, .int .u32 z4] ∧ w10.rangeAt RB 0 ([.int .i64 1, .int .i64 1, .int .u32 0, .int .u32 0, .int .u32 0, .int .u32 0, .int .i64 0, .int .i64 0, .int .i64 0, .int .i64 0, .int .u32 0, .int .i64 0, .int .i64 0, .int .i64 0, .int .i64 0, .int .u32 0, .int .i64 0, .int .i64 0, .int .i64 0, .int .i64 0, .int .u32 0] : List Value)) := Lib.hid (by
          rw [← hE]
          exact ⟨H9.out.1.cells RB (by simp) HXR.out 0 _, range_same H9.out.2.1 (heapSet SB RB HSR.out _ _ _), World.rangeAt_setCells_same _ _ 0 ([.int .i64 1, .int .i64 1, .int .u32 0, .int .u32 0, .int .u32 0, .int .u32 0, .int .i64 0, .int .i64 0, .int .i64 0, .int .i64 0, .int .u32 0, .int .i64 0, .int .i64 0, .int .i64 0, .int .i64 0, .int .u32 0, .int .i64 0, .int .i64 0, .int .i64 0, .int .i64 0, .int .u32 0] : List Value) H9.out.2.2⟩)
        clear hE
        refine hK.out _ _ (HS1.out _ _ _ _ _ H10.out.1) (fun hHeld => ?_)
        clear hK K
        (try simp only [Act.put, List.getElem_toArray, List.getElem_cons_succ, List.getElem_cons_zero, List.setIfInBounds_toArray, List.set_cons_zero, List.set_cons_succ])
        refine wpAnyH_take (i := 14) (v := ?_) (by rfl) (by kernel_rfl) (by kernel_rfl) (by kernel_rfl) (fun _ _ _ h => h) (Or.inl ⟨by kernel_rfl, ?_⟩) (by assumption) ?_; rotate_left 1; (focus (intro w hSw; (try dsimp only at hSw); simp only [List.getElem_toArray, List.getElem_cons_succ, List.getElem_cons_zero]; all_goals go_simp; all_goals (try with_reducible rfl))); (try simp only [Act.put, List.getElem_toArray, List.getElem_cons_succ, List.getElem_cons_zero, List.setIfInBounds_toArray, List.set_cons_zero, List.set_cons_succ])
        refine wpAnyH_done (by kernel_rfl) ?_ _
        refine NoPanic.normal ?_
        go_wp2_with fail
        go_meet
        exact ⟨RB, rfl, rfl, H10.out.1.tail, H10.out.2.2, H10.out.2.1⟩
      · rw [if_pos (by kernel_rfl)]; simp only [List.getElem_toArray, List.getElem_cons_succ, List.getElem_cons_zero]
        go_wp2_with fail
        generalize hE : World.alloc w7 _ = w8
        obtain ⟨RB, hRB⟩ : ∃ RB, RB = w7.heap.size := ⟨_, rfl⟩
        have H8 : Hid (GS wv w8 L X 4 0 [RB, SB] F1 [] ∧ w8.rangeAt SB 0 [.int .i64 u0, .int .i64 u1, .int .i64 u2, .int .i64 u3, .int .u32 u4, .int .i64 v0, .int .i64 v1, .int .i64 v2, .int .i64 v3, .int .u32 v4, .int .i64 z0, .int .i64 z1, .int .i64 z2, .int .i64 z3, .int .u32 z4] ∧ World.there w8 RB 0 21) := Lib.hid (by
          rw [← hE, hRB]
          exact ⟨H7.out.gs.more ((Below.refl _ _).alloc (Nat.le_refl _) _) _ (Nat.le_refl _) (by simp), range_below H7.out.r ((Below.refl _ _).alloc (Nat.le_refl _) _) (H7.out.gs.a SB (by simp)).1, nthere_new _ _ 21 (by rfl) _⟩)
        have HXR : Hid (X.s < RB) := Lib.hid (by rw [hRB]; exact H7.out.gs.xs.1)
        have HSR : Hid (SB ≠ RB) := Lib.hid (by rw [hRB]; have := (H7.out.gs.a SB (by simp)).1; omega)
        rw [← hRB]
        clear hE hRB
        refine hK.out _ _ (HS1.out _ _ _ _ _ H8.out.1) (fun hHeld => ?_)
        clear hK K1
        (try simp only [Act.put, List.getElem_toArray, List.getElem_cons_succ, List.getElem_cons_zero, List.setIfInBounds_toArray, List.set_cons_zero, List.set_cons_succ])
        refine wpAnyH_ready (rs := [8]) (by kernel_rfl) (by simp) ?_; refine AllReadyH.cons (by rfl) (fun K hK => ?_) AllReadyH.nil; rw [if_pos (by kernel_rfl)]; simp only [List.getElem_toArray, List.getElem_cons_succ, List.getElem_cons_zero]
        go_wp2_with (first | (go_at_call 12; (with_reducible refine (HIV.out _ _ H8.out.1).mono ?_); rintro e w9 ⟨rfl, hg, hk⟩; have H9 := Lib.hid (And.intro hg (And.intro (range_same H8.out.2.1 (hk.eq SB (by simp))) (nthere_same H8.out.2.2 (hk.eq RB (by simp))))); clear hg hk))
        refine hK.out _ _ (HS1.out _ _ _ _ _ H9.out.1) (fun hHeld => ?_)
        clear hK K
        (try simp only [Act.put, List.getElem_toArray, List.getElem_cons_succ, List.getElem_cons_zero, List.setIfInBounds_toArray, List.set_cons_zero, List.set_cons_succ])
        refine wpAnyH_take (i := 9) (v := ?_) (by rfl) (by kernel_rfl) (by kernel_rfl) (by kernel_rfl) (fun _ _ _ h => h) (Or.inl ⟨by kernel_rfl, ?_⟩) (by assumption) ?_; rotate_left 1; (focus (intro w hSw; (try dsimp only at hSw); simp only [List.getElem_toArray, List.getElem_cons_succ, List.getElem_cons_zero]; all_goals go_simp; all_goals (try with_reducible rfl))); (try simp only [Act.put, List.getElem_toArray, List.getElem_cons_succ, List.getElem_cons_zero, List.setIfInBounds_toArray, List.set_cons_zero, List.set_cons_succ])
        refine wpAnyH_take (i := 10) (v := ?_) (by rfl) (by kernel_rfl) (by kernel_rfl) (by kernel_rfl) (fun _ _ _ h => h) (Or.inl ⟨by kernel_rfl, ?_⟩) (by assumption) ?_; rotate_left 1; (focus (intro w hSw; (try dsimp only at hSw); simp only [List.getElem_toArray, List.getElem_cons_succ, List.getElem_cons_zero]; all_goals go_simp; all_goals (try with_reducible rfl))); (try simp only [Act.put, List.getElem_toArray, List.getElem_cons_succ, List.getElem_cons_zero, List.setIfInBounds_toArray, List.set_cons_zero, List.set_cons_succ])
        refine wpAnyH_take (i := 11) (v := ?_) (by rfl) (by kernel_rfl) (by kernel_rfl) (by kernel_rfl) (fun _ _ _ h => h) (Or.inl ⟨by kernel_rfl, ?_⟩) (by assumption) ?_; rotate_left 1; (focus (intro w hSw; (try dsimp only at hSw); simp only [List.getElem_toArray, List.getElem_cons_succ, List.getElem_cons_zero]; all_goals go_simp; all_goals (try with_reducible rfl))); (try simp only [Act.put, List.getElem_toArray, List.getElem_cons_succ, List.getElem_cons_zero, List.setIfInBounds_toArray, List.set_cons_zero, List.set_cons_succ])
        refine wpAnyH_ready (rs := [13]) (by kernel_rfl) (by simp) ?_; refine AllReadyH.cons (by rfl) (fun K hK => ?_) AllReadyH.nil; rw [if_pos (by kernel_rfl)]; simp only [List.getElem_toArray, List.getElem_cons_succ, List.getElem_cons_zero]
        refine wp_store_mid 54 (Operand.tmp 12) (Operand.tmp 71) (by rfl) RB 0 ([.int .i64 1, .int .i64 1, .int .u32 0, .int .u32 0, .int .u32 0, .int .u32 0, .int .i64 0, .int .i64 0, .int .i64 0, .int .i64 0, .int .u32 0, .int .i64 0, .int .i64 0, .int .i64 0, .int .i64 0, .int .u32 0, .int .i64 0, .int .i64 0, .int .i64 0, .int .i64 0, .int .u32 0] : List Value).toArray (by rfl) (by rfl) H9.out.2.2 resInfo (by simp [Value.oneCell']) ?_
        generalize hE : World.setCells w9 _ _ _ = w10
        have H10 : Hid (GS wv w10 L X 4 1 [RB, SB] F2 [1] ∧ w10.rangeAt SB 0 [.int .i64 u0, .int .i64 u1, .int .i64 u2, .int .i64 u3, .int .u32 u4, .int .i64 v0, .int .i64 v1, .int .i64 v2, .int .i64 v3, .int .u32 v4, .int .i64 z0, .int .i64 z1, .int .i64 z2, .int .i64 z3, .int .u32 z4] ∧ w10.rangeAt RB 0 ([.int .i64 1, .int .i64 1, .int .u32 0, .int .u32 0, .int .u32 0, .int .u32 0, .int .i64 0, .int .i64 0, .int .i64 0, .int .i64 0, .int .u32 0, .int .i64 0, .int .i64 0, .int .i64 0, .int .i64 0, .int .u32 0, .int .i64 0, .int .i64 0, .int .i64 0, .int .i64 0, .int .u32 0] : List Value)) := Lib.hid (by
          rw [← hE]
          exact ⟨H9.out.1.cells RB (by simp) HXR.out 0 _, range_same H9.out.2.1 (heapSet SB RB HSR.out _ _ _), World.rangeAt_setCells_same _ _ 0 ([.int .i64 1, .int .i64 1, .int .u32 0, .int .u32 0, .int .u32 0, .int .u32 0, .int .i64 0, .int .i64 0, .int .i64 0, .int .i64 0, .int .u32 0, .int .i64 0, .int .i64 0, .int .i64 0, .int .i64 0, .int .u32 0, .int .i64 0, .int .i64 0, .int .i64 0, .int .i64 0, .int .u32 0] : List Value) H9.out.2.2⟩)
        clear hE
        refine hK.out _ _ (HS1.out _ _ _ _ _ H10.out.1) (fun hHeld => ?_)
        clear hK K
        (try simp only [Act.put, List.getElem_toArray, List.getElem_cons_succ, List.getElem_cons_zero, List.setIfInBounds_toArray, List.set_cons_zero, List.set_cons_succ])
        refine wpAnyH_take (i := 14) (v := ?_) (by rfl) (by kernel_rfl) (by kernel_rfl) (by kernel_rfl) (fun _ _ _ h => h) (Or.inl ⟨by kernel_rfl, ?_⟩) (by assumption) ?_; rotate_left 1; (focus (intro w hSw; (try dsimp only at hSw); simp only [List.getElem_toArray, List.getElem_cons_succ, List.getElem_cons_zero]; all_goals go_simp; all_goals (try with_reducible rfl))); (try simp only [Act.put, List.getElem_toArray, List.getElem_cons_succ, List.getElem_cons_zero, List.setIfInBounds_toArray, List.set_cons_zero, List.set_cons_succ])
        refine wpAnyH_done (by kernel_rfl) ?_ _
        refine NoPanic.normal ?_
        go_wp2_with fail
        go_meet
        exact ⟨RB, rfl, rfl, H10.out.1.tail, H10.out.2.2, H10.out.2.1⟩
    · rw [if_pos (by kernel_rfl)]; simp only [List.getElem_toArray, List.getElem_cons_succ, List.getElem_cons_zero]
      go_wp2_with fail
      generalize hE : World.alloc wD _ = w7
      obtain ⟨RB, hRB⟩ : ∃ RB, RB = wD.heap.size := ⟨_, rfl⟩
      have H7 : Hid (GS wv w7 L X 4 0 [RB, SB] F1 [] ∧ w7.rangeAt SB 0 [.int .i64 u0, .int .i64 u1, .int .i64 u2, .int .i64 u3, .int .u32 u4, .int .i64 v0, .int .i64 v1, .int .i64 v2, .int .i64 v3, .int .u32 v4, .int .i64 z0, .int .i64 z1, .int .i64 z2, .int .i64 z3, .int .u32 z4] ∧ World.there w7 RB 0 21) := Lib.hid (by
        rw [← hE, hRB]
        exact ⟨HD0.out.gs.more ((Below.refl _ _).alloc (Nat.le_refl _) _) _ (Nat.le_refl _) (by simp), range_below HD0.out.r ((Below.refl _ _).alloc (Nat.le_refl _) _) (HD0.out.gs.a SB (by simp)).1, nthere_new _ _ 21 (by rfl) _⟩)
      have HXR : Hid (X.s < RB) := Lib.hid (by rw [hRB]; exact HD0.out.gs.xs.1)
      have HSR : Hid (SB ≠ RB) := Lib.hid (by rw [hRB]; have := (HD0.out.gs.a SB (by simp)).1; omega)
      rw [← hRB]
      clear hE hRB
      refine hK.out _ _ (HS1.out _ _ _ _ _ H7.out.1) (fun hHeld => ?_)
      clear hK K1
      (try simp only [Act.put, List.getElem_toArray, List.getElem_cons_succ, List.getElem_cons_zero, List.setIfInBounds_toArray, List.set_cons_zero, List.set_cons_succ])
      refine wpAnyH_ready (rs := [6]) (by kernel_rfl) (by simp) ?_; refine AllReadyH.cons (by rfl) (fun K hK => ?_) AllReadyH.nil; rw [if_pos (by kernel_rfl)]; simp only [List.getElem_toArray, List.getElem_cons_succ, List.getElem_cons_zero]
      go_wp2_with (first | (go_at_call 15; (with_reducible refine (HDO.out _ _ H7.out.1).mono ?_); rintro e w8 ⟨rfl, hb⟩; have H8 : Hid (GS wv w8 L X 4 0 [RB, SB] F1 [] ∧ w8.rangeAt SB 0 [.int .i64 u0, .int .i64 u1, .int .i64 u2, .int .i64 u3, .int .u32 u4, .int .i64 v0, .int .i64 v1, .int .i64 v2, .int .i64 v3, .int .u32 v4, .int .i64 z0, .int .i64 z1, .int .i64 z2, .int .i64 z3, .int .u32 z4] ∧ World.there w8 RB 0 21) := Lib.hid ⟨H7.out.1.below hb, range_below H7.out.2.1 hb (H7.out.1.a SB (by simp)).1, nthere_below H7.out.2.2 hb (H7.out.1.a RB (by simp)).1⟩; clear hb))
      refine hK.out _ _ (HS1.out _ _ _ _ _ H8.out.1) (fun hHeld => ?_)
      clear hK K
      (try simp only [Act.put, List.getElem_toArray, List.getElem_cons_succ, List.getElem_cons_zero, List.setIfInBounds_toArray, List.set_cons_zero, List.set_cons_succ])
      refine wpAnyH_ready (rs := [8]) (by kernel_rfl) (by simp) ?_; refine AllReadyH.cons (by rfl) (fun K hK => ?_) AllReadyH.nil; rw [if_pos (by kernel_rfl)]; simp only [List.getElem_toArray, List.getElem_cons_succ, List.getElem_cons_zero]
      go_wp2_with (first | (go_at_call 12; (with_reducible refine (HIV.out _ _ H8.out.1).mono ?_); rintro e w9 ⟨rfl, hg, hk⟩; have H9 := Lib.hid (And.intro hg (And.intro (range_same H8.out.2.1 (hk.eq SB (by simp))) (nthere_same H8.out.2.2 (hk.eq RB (by simp))))); clear hg hk))
      refine hK.out _ _ (HS1.out _ _ _ _ _ H9.out.1) (fun hHeld => ?_)
      clear hK K
      (try simp only [Act.put, List.getElem_toArray, List.getElem_cons_succ, List.getElem_cons_zero, List.setIfInBounds_toArray, List.set_cons_zero, List.set_cons_succ])
      refine wpAnyH_take (i := 9) (v := ?_) (by rfl) (by kernel_rfl) (by kernel_rfl) (by kernel_rfl) (fun _ _ _ h => h) (Or.inl ⟨by kernel_rfl, ?_⟩) (by assumption) ?_; rotate_left 1; (focus (intro w hSw; (try dsimp only at hSw); simp only [List.getElem_toArray, List.getElem_cons_succ, List.getElem_cons_zero]; all_goals go_simp; all_goals (try with_reducible rfl))); (try simp only [Act.put, List.getElem_toArray, List.getElem_cons_succ, List.getElem_cons_zero, List.setIfInBounds_toArray, List.set_cons_zero, List.set_cons_succ])
      refine wpAnyH_take (i := 10) (v := ?_) (by rfl) (by kernel_rfl) (by kernel_rfl) (by kernel_rfl) (fun _ _ _ h => h) (Or.inl ⟨by kernel_rfl, ?_⟩) (by assumption) ?_; rotate_left 1; (focus (intro w hSw; (try dsimp only at hSw); simp only [List.getElem_toArray, List.getElem_cons_succ, List.getElem_cons_zero]; all_goals go_simp; all_goals (try with_reducible rfl))); (try simp only [Act.put, List.getElem_toArray, List.getElem_cons_succ, List.getElem_cons_zero, List.setIfInBounds_toArray, List.set_cons_zero, List.set_cons_succ])
      refine wpAnyH_take (i := 11) (v := ?_) (by rfl) (by kernel_rfl) (by kernel_rfl) (by kernel_rfl) (fun _ _ _ h => h) (Or.inl ⟨by kernel_rfl, ?_⟩) (by assumption) ?_; rotate_left 1; (focus (intro w hSw; (try dsimp only at hSw); simp only [List.getElem_toArray, List.getElem_cons_succ, List.getElem_cons_zero]; all_goals go_simp; all_goals (try with_reducible rfl))); (try simp only [Act.put, List.getElem_toArray, List.getElem_cons_succ, List.getElem_cons_zero, List.setIfInBounds_toArray, List.set_cons_zero, List.set_cons_succ])
      refine wpAnyH_ready (rs := [13]) (by kernel_rfl) (by simp) ?_; refine AllReadyH.cons (by rfl) (fun K hK => ?_) AllReadyH.nil; rw [if_pos (by kernel_rfl)]; simp only [List.getElem_toArray, List.getElem_cons_succ, List.getElem_cons_zero]
      refine wp_store_mid 54 (Operand.tmp 12) (Operand.tmp 71) (by rfl) RB 0 ([.int .i64 1, .int .i64 1, .int .u32 0, .int .u32 0, .int .u32 0, .int .u32 0, .int .i64 0, .int .i64 0, .int .i64 0, .int .i64 0, .int .u32 0, .int .i64 0, .int .i64 0, .int .i64 0, .int .i64 0, .int .u32 0, .int .i64 0, .int .i64 0, .int .i64 0, .int .i64 0, .int .u32 0] : List Value).toArray (by rfl) (by rfl) H9.out.2.2 resInfo (by simp [Value.oneCell']) ?_
      generalize hE : World.setCells w9 _ _ _ = w10
      have H10 : Hid (GS wv w10 L X 4 1 [RB, SB] F2 [1] ∧ w10.rangeAt SB 0 [.int .i64 u0, .int .i64 u1, .int .i64 u2, .int .i64 u3, .int .u32 u4, .int .i64 v0, .int .i64 v1, .int .i64 v2, .int .i64 v3, .int .u32 v4, .int .i64 z0, .int .i64 z1, .int .i64 z2, .int .i64 z3, .int .u32 z4] ∧ w10.rangeAt RB 0 ([.int .i64 1, .int .i64 1, .int .u32 0, .int .u32 0, .int .u32 0, .int .u32 0, .int .i64 0, .int .i64 0, .int .i64 0, .int .i64 0, .int .u32 0, .int .i64 0, .int .i64 0, .int .i64 0, .int .i64 0, .int .u32 0, .int .i64 0, .int .i64 0, .int .i64 0, .int .i64 0, .int .u32 0] : List Value)) := Lib.hid (by
        rw [← hE]
        exact ⟨H9.out.1.cells RB (by simp) HXR.out 0 _, range_same H9.out.2.1 (heapSet SB RB HSR.out _ _ _), World.rangeAt_setCells_same _ _ 0 ([.int .i64 1, .int .i64 1, .int .u32 0, .int .u32 0, .int .u32 0, .int .u32 0, .int .i64 0, .int .i64 0, .int .i64 0, .int .i64 0, .int .u32 0, .int .i64 0, .int .i64 0, .int .i64 0, .int .i64 0, .int .u32 0, .int .i64 0, .int .i64 0, .int .i64 0, .int .i64 0, .int .u32 0] : List Value) H9.out.2.2⟩)
      clear hE
      refine hK.out _ _ (HS1.out _ _ _ _ _ H10.out.1) (fun hHeld => ?_)
      clear hK K
      (try simp only [Act.put, List.getElem_toArray, List.getElem_cons_succ, List.getElem_cons_zero, List.setIfInBounds_toArray, List.set_cons_zero, List.set_cons_succ])
      refine wpAnyH_take (i := 14) (v := ?_) (by rfl) (by kernel_rfl) (by kernel_rfl) (by kernel_rfl) (fun _ _ _ h => h) (Or.inl ⟨by kernel_rfl, ?_⟩) (by assumption) ?_; rotate_left 1; (focus (intro w hSw; (try dsimp only at hSw); simp only [List.getElem_toArray, List.getElem_cons_succ, List.getElem_cons_zero]; all_goals go_simp; all_goals (try with_reducible rfl))); (try simp only [Act.put, List.getElem_toArray, List.getElem_cons_succ, List.getElem_cons_zero, List.setIfInBounds_toArray, List.set_cons_zero, List.set_cons_succ])
      refine wpAnyH_done (by kernel_rfl) ?_ _
      refine NoPanic.normal ?_
      go_wp2_with fail
      go_meet
      exact ⟨RB, rfl, rfl, H10.out.1.tail, H10.out.2.2, H10.out.2.1⟩
  case rest =>
    obtain ⟨RB, rfl, rfl, hg, hr, hs⟩ := hcut
    have HC := Lib.hid (And.intro hg (And.intro hr hs))
    clear hg hr hs
    have hF20 : Hid (F2 0 = RW (fun _ => 0) 0 2 0 (fun _ _ => 0) 1) := Lib.hid (by rw [HF2.out, setF_ne _ _ _ _ (by decide), setF_at]; rfl)
    obtain ⟨G1, rk, kk2, hG1, hF21, hRW, hRk⟩ : ∃ (G1 : Nat → Value) (rk : Nat → Int) (kk2 : Nat → Nat → Int), Hid (G1 = RW (tRg (fun _ => 0) o a b c (bd % 1000)) 0 3 0 (tKk (fun _ _ => 0) u0 u1 u2 u3 u4 v0 v1 v2 v3 v4 z0 z1 z2 z3 z4 6 0 0 0 (0 + 1)) 0) ∧ Hid (F2 1 = G1) ∧ Hid (G1 = RW rk 0 3 0 kk2 0) ∧ Hid (∀ q, q < 19 → KRight kk2 q) := ⟨_, _, _, Lib.hid rfl, Lib.hid (by rw [HF2.out, setF_at]), Lib.hid rfl, Lib.hid (tKk_right (kk := fun _ _ => 0) (fun _ _ => (show rightB 0 0 0 0 0 = true by decide)) u0 u1 u2 u3 u4 v0 v1 v2 v3 v4 z0 z1 z2 z3 z4 6 0 0 0 (0 + 1) HRu.out HRv.out HRz.out (by decide))⟩
    have hO1 : Hid (∀ j, j < 107 → (F2 1 j).oneCell' = true) := Lib.hid (by rw [hF21.out, hRW.out]; exact fun j _ => RW_one _ _ _ _ _ _ j)
    clear HSS HIV HDO
    have HG := Lib.hid (HC.out.1.get 1 1 (Lib.hid rfl) (by decide) hO1)
    have c1 := HC.out.1.c1
    go_upto_region 18 with (first
      | (go_at_call 10; (with_reducible refine HG.out.mono ?_); rintro e w12 ⟨rfl, hb⟩; have HB12 := Lib.hid hb; clear hb)
      | (refine wpList_store_mid (by rfl) _ _ _ (by rfl) w12.heap.size 0 (rowL (F2 1)).toArray (by rfl) (by rfl) (by rw [rowL_size]; exact nthere_new _ _ 107 zsize _) (by rw [rowL_size]; exact infoDomS) (rowL_one (F2 1) hO1.out) ?_))
    generalize hg : World.setCells _ w12.heap.size 0 _ = w13
    obtain ⟨KD, hKD⟩ : ∃ KD, KD = w12.heap.size := ⟨_, rfl⟩
    have H13 := Lib.hid (show GS wv w13 L X 4 1 [SB] F2 [1] ∧ w13.rangeAt RB 0 ([.int .i64 1, .int .i64 1, .int .u32 0, .int .u32 0, .int .u32 0, .int .u32 0, .int .i64 0, .int .i64 0, .int .i64 0, .int .i64 0, .int .u32 0, .int .i64 0, .int .i64 0, .int .i64 0, .int .i64 0, .int .u32 0, .int .i64 0, .int .i64 0, .int .i64 0, .int .i64 0, .int .u32 0] : List Value) ∧ w13.rangeAt SB 0 [.int .i64 u0, .int .i64 u1, .int .i64 u2, .int .i64 u3, .int .u32 u4, .int .i64 v0, .int .i64 v1, .int .i64 v2, .int .i64 v3, .int .u32 v4, .int .i64 z0, .int .i64 z1, .int .i64 z2, .int .i64 z3, .int .u32 z4] ∧ w13.rangeAt KD 0 (rowL G1) by
      have bb := nbelow_cells (HB12.out.alloc HB12.out.size (.cells (rowL zd).toArray 34)) HB12.out.size (rowL (F2 1)) 0
      rw [← hg, hKD, ← hF21.out]
      exact ⟨HC.out.1.below bb, range_below HC.out.2.1 bb (cell_lt (CallC.cell HC.out.2.1 0 _ rfl)), range_below HC.out.2.2 bb (HC.out.1.a SB (by simp)).1, World.rangeAt_setCells_same _ _ 0 (rowL (F2 1)) (by rw [rowL_len]; exact nthere_new _ _ 107 zsize _)⟩)
    rw [← hKD]
    clear hg hKD c1 HG HC
    have p0 := CallC.cell H13.out.2.1 0 _ rfl
    have p1 := CallC.cell H13.out.2.1 1 _ rfl
    have HST := Lib.hid (state_is H13.out.1 0 0 (Lib.hid rfl) (by decide) (fun _ => 0) 0 2 0 (fun _ _ => 0) 1 hF20)
    go_upto_region 20 with (first
      | (go_at_call 16; (with_reducible refine HST.out.mono ?_); rintro e w14 ⟨rfl, hb⟩; have H14 := Lib.hid (show GS wv w14 L X 4 1 [SB] F2 [1] ∧ w14.rangeAt SB 0 [.int .i64 u0, .int .i64 u1, .int .i64 u2, .int .i64 u3, .int .u32 u4, .int .i64 v0, .int .i64 v1, .int .i64 v2, .int .i64 v3, .int .u32 v4, .int .i64 z0, .int .i64 z1, .int .i64 z2, .int .i64 z3, .int .u32 z4] ∧ w14.rangeAt KD 0 (rowL G1) from ⟨H13.out.1.below hb, range_below H13.out.2.2.1 hb (H13.out.1.a SB (by simp)).1, range_below H13.out.2.2.2 hb (cell_lt (rangeD H13.out.2.2.2 0 (by decide)))⟩); clear hb p0 p1; have k9 : w14.cell? ⟨KD, 9, none⟩ = some (.int .i64 3) := (rangeD H14.out.2.2 9 (by decide)).trans (by rw [hG1.out]; rfl); have k0 : w14.cell? ⟨KD, 0, none⟩ = some (.int .u32 o) := (rangeD H14.out.2.2 0 (by decide)).trans (by rw [hG1.out]; rfl); have k3 : w14.cell? ⟨KD, 3, none⟩ = some (.int .u32 c) := (rangeD H14.out.2.2 3 (by decide)).trans (by rw [hG1.out]; rfl); have k4 : w14.cell? ⟨KD, 4, none⟩ = some (.int .u32 (bd % 1000)) := (rangeD H14.out.2.2 4 (by decide)).trans (by rw [hG1.out]; rfl); have n0' := CallC.cell (H.out.below H14.out.1.bel).n 0 _ rfl; have n3' := CallC.cell (H.out.below H14.out.1.bel).n 3 _ rfl))
    clear k9 k0 k3 k4 n0' n3'
    have HSAM : Hid (∀ (a0 a1 a2 a3 a4 : Int) W, Calls Tryz.prog 22 #[.agg #[.int .i64 a0, .int .i64 a1, .int .i64 a2, .int .i64 a3, .int .u32 a4], .agg #[.int .i64 a0, .int .i64 a1, .int .i64 a2, .int .i64 a3, .int .u32 a4]] W fun e w' => e = .returned (.bool true) ∧ Below W.heap.size W w') := Lib.hid (fun a0 a1 a2 a3 a4 W => (samekey_any a0 a1 a2 a3 a4 a0 a1 a2 a3 a4 W).mono (fun e w' h => ⟨by rw [h.1]; simp [sameB], h.2⟩))
    have q12 : IntKind.i64.wrap 12 = 12 := by rw [IntKind.wrap_i64]; omega
    have q13 : IntKind.i64.wrap 13 = 13 := by rw [IntKind.wrap_i64]; omega
    have q14 : IntKind.i64.wrap 14 = 14 := by rw [IntKind.wrap_i64]; omega
    go_upto_region 21 with fail
    refine wp_loop_rounds 4 ?_
    rw [rounds_succ]
    have ST : Hid (∀ W, Below w14.heap.size w14 W → (World.rangeAt W KD 71 [.int .i64 u0, .int .i64 u1, .int .i64 u2, .int .i64 u3, .int .u32 u4] ∧ World.rangeAt W SB 0 [.int .i64 u0, .int .i64 u1, .int .i64 u2, .int .i64 u3, .int .u32 u4])) := Lib.hid (fun W hW => ⟨range_of5 ((rangeD (range_below H14.out.2.2 hW (cell_lt (rangeD H14.out.2.2 0 (by decide)))) 71 (by decide)).trans (by rw [hG1.out]; rfl)) ((rangeD (range_below H14.out.2.2 hW (cell_lt (rangeD H14.out.2.2 0 (by decide)))) 72 (by decide)).trans (by rw [hG1.out]; rfl)) ((rangeD (range_below H14.out.2.2 hW (cell_lt (rangeD H14.out.2.2 0 (by decide)))) 73 (by decide)).trans (by rw [hG1.out]; rfl)) ((rangeD (range_below H14.out.2.2 hW (cell_lt (rangeD H14.out.2.2 0 (by decide)))) 74 (by decide)).trans (by rw [hG1.out]; rfl)) ((rangeD (range_below H14.out.2.2 hW (cell_lt (rangeD H14.out.2.2 0 (by decide)))) 75 (by decide)).trans (by rw [hG1.out]; rfl)), range_of5 (CallC.cell (range_below H14.out.2.1 hW (H14.out.1.a SB (by simp)).1) 0 _ rfl) (CallC.cell (range_below H14.out.2.1 hW (H14.out.1.a SB (by simp)).1) 1 _ rfl) (CallC.cell (range_below H14.out.2.1 hW (H14.out.1.a SB (by simp)).1) 2 _ rfl) (CallC.cell (range_below H14.out.2.1 hW (H14.out.1.a SB (by simp)).1) 3 _ rfl) (CallC.cell (range_below H14.out.2.1 hW (H14.out.1.a SB (by simp)).1) 4 _ rfl)⟩)
    go_upto_region 23 with fail
    obtain ⟨wD, hwD⟩ : ∃ wD, wD = w14.drew := ⟨_, rfl⟩
    have HBd : Hid (Below w14.heap.size w14 wD) := Lib.hid (by rw [hwD]; exact (Below.refl _ _).drew)
    refine wp_region_noPanic ?_
    refine wp_region_held_drew (S := fun w' => (World.rangeAt w' KD 71 [.int .i64 u0, .int .i64 u1, .int .i64 u2, .int .i64 u3, .int .u32 u4] ∧ World.rangeAt w' SB 0 [.int .i64 u0, .int .i64 u1, .int .i64 u2, .int .i64 u3, .int .u32 u4])) (by kernel_rfl) (by rw [← hwD]; exact ST.out _ HBd.out) (fun hHeld => ?_)
    rw [← hwD] at hHeld ⊢
    clear hwD
    refine wpAnyH_take (i := 0) (v := ?_) (by rfl) (by kernel_rfl) (by kernel_rfl) (by kernel_rfl) (fun _ _ _ h => h) (Or.inl ⟨by kernel_rfl, ?_⟩) (by assumption) ?_; rotate_left 1; (focus (intro w hSw; (try dsimp only at hSw); simp only [List.getElem_toArray, List.getElem_cons_succ, List.getElem_cons_zero]; all_goals go_simp; all_goals (try with_reducible rfl))); (try simp only [Act.put, List.getElem_toArray, List.getElem_cons_succ, List.getElem_cons_zero, List.setIfInBounds_toArray, List.set_cons_zero, List.set_cons_succ])
    refine wpAnyH_take (i := 1) (v := ?_) (by rfl) (by kernel_rfl) (by kernel_rfl) (by kernel_rfl) (fun _ _ _ h => h) (Or.inl ⟨by kernel_rfl, ?_⟩) (by assumption) ?_; rotate_left 1; (focus (intro w hSw; (try dsimp only at hSw); simp only [List.getElem_toArray, List.getElem_cons_succ, List.getElem_cons_zero]; all_goals go_simp; all_goals (try with_reducible rfl))); (try simp only [Act.put, List.getElem_toArray, List.getElem_cons_succ, List.getElem_cons_zero, List.setIfInBounds_toArray, List.set_cons_zero, List.set_cons_succ])
    refine wpAnyH_take (i := 2) (v := ?_) (by rfl) (by kernel_rfl) (by kernel_rfl) (by kernel_rfl) (fun _ _ _ h => h) (Or.inl ⟨by kernel_rfl, ?_⟩) (by assumption) ?_; rotate_left 1; (focus (intro w hSw; (try dsimp only at hSw); simp only [List.getElem_toArray, List.getElem_cons_succ, List.getElem_cons_zero]; all_goals go_simp; all_goals (try with_reducible rfl))); (try simp only [Act.put, List.getElem_toArray, List.getElem_cons_succ, List.getElem_cons_zero, List.setIfInBounds_toArray, List.set_cons_zero, List.set_cons_succ])
    refine wpAnyH_take (i := 3) (v := ?_) (by rfl) (by kernel_rfl) (by kernel_rfl) (by kernel_rfl) (fun _ _ _ h => h) (Or.inl ⟨by kernel_rfl, ?_⟩) (by assumption) ?_; rotate_left 1; (focus (intro w hSw; (try dsimp only at hSw); simp only [List.getElem_toArray, List.getElem_cons_succ, List.getElem_cons_zero]; all_goals go_simp; all_goals (try with_reducible rfl))); (try simp only [Act.put, List.getElem_toArray, List.getElem_cons_succ, List.getElem_cons_zero, List.setIfInBounds_toArray, List.set_cons_zero, List.set_cons_succ])
    refine wpAnyH_take (i := 4) (v := .agg ([.int .i64 u0, .int .i64 u1, .int .i64 u2, .int .i64 u3, .int .u32 u4] : List Value).toArray) (by rfl) (by kernel_rfl) (by kernel_rfl) (by kernel_rfl) (fun _ _ _ h => h) (yieldsIf_load_mid (by kernel_rfl) 31 (.tmp 138) (by rfl) KD 71 (by rfl) [.int .i64 u0, .int .i64 u1, .int .i64 u2, .int .i64 u3, .int .u32 u4] _ (fun w h => h.1) Tryz.underlying31 rfl keyInfo5) (by assumption) ?_
    (try simp only [Act.put, List.getElem_toArray, List.getElem_cons_succ, List.getElem_cons_zero, List.setIfInBounds_toArray, List.set_cons_zero, List.set_cons_succ])
    refine wpAnyH_take (i := 5) (v := ?_) (by rfl) (by kernel_rfl) (by kernel_rfl) (by kernel_rfl) (fun _ _ _ h => h) (Or.inl ⟨by kernel_rfl, ?_⟩) (by assumption) ?_; rotate_left 1; (focus (intro w hSw; (try dsimp only at hSw); simp only [List.getElem_toArray, List.getElem_cons_succ, List.getElem_cons_zero]; all_goals go_simp; all_goals (try with_reducible rfl))); (try simp only [Act.put, List.getElem_toArray, List.getElem_cons_succ, List.getElem_cons_zero, List.setIfInBounds_toArray, List.set_cons_zero, List.set_cons_succ])
    refine wpAnyH_take (i := 6) (v := ?_) (by rfl) (by kernel_rfl) (by kernel_rfl) (by kernel_rfl) (fun _ _ _ h => h) (Or.inl ⟨by kernel_rfl, ?_⟩) (by assumption) ?_; rotate_left 1; (focus (intro w hSw; (try dsimp only at hSw); simp only [List.getElem_toArray, List.getElem_cons_succ, List.getElem_cons_zero]; all_goals go_simp; all_goals (try with_reducible rfl))); (try simp only [Act.put, List.getElem_toArray, List.getElem_cons_succ, List.getElem_cons_zero, List.setIfInBounds_toArray, List.set_cons_zero, List.set_cons_succ])
    refine wpAnyH_take (i := 7) (v := .agg ([.int .i64 u0, .int .i64 u1, .int .i64 u2, .int .i64 u3, .int .u32 u4] : List Value).toArray) (by rfl) (by kernel_rfl) (by kernel_rfl) (by kernel_rfl) (fun _ _ _ h => h) (yieldsIf_load_mid (by kernel_rfl) 31 (.tmp 141) (by rfl) SB 0 (by rfl) [.int .i64 u0, .int .i64 u1, .int .i64 u2, .int .i64 u3, .int .u32 u4] _ (fun w h => h.2) Tryz.underlying31 rfl keyInfo5) (by assumption) ?_
    (try simp only [Act.put, List.getElem_toArray, List.getElem_cons_succ, List.getElem_cons_zero, List.setIfInBounds_toArray, List.set_cons_zero, List.set_cons_succ])
    refine wpAnyH_ready (rs := [8]) (by kernel_rfl) (by simp) ?_; refine AllReadyH.cons (by rfl) (fun K hK => ?_) AllReadyH.nil; rw [if_pos (by kernel_rfl)]; simp only [List.getElem_toArray, List.getElem_cons_succ, List.getElem_cons_zero]
    go_wp2_with (first | (go_at_call 22; (with_reducible refine (HSAM.out _ _ _ _ _ _).mono ?_); rintro e w16 ⟨rfl, hb⟩; have HB15 := Lib.hid (HBd.out.trans (hb.mono HBd.out.size)); clear hb))
    refine hK.out _ _ (ST.out _ HB15.out) (fun hHeld => ?_)
    clear hK K
    (try simp only [Act.put, List.getElem_toArray, List.getElem_cons_succ, List.getElem_cons_zero, List.setIfInBounds_toArray, List.set_cons_zero, List.set_cons_succ])
    refine wpAnyH_take (i := 9) (v := ?_) (by rfl) (by kernel_rfl) (by kernel_rfl) (by kernel_rfl) (fun _ _ _ h => h) (Or.inl ⟨by kernel_rfl, ?_⟩) (by assumption) ?_; rotate_left 1; (focus (intro w hSw; (try dsimp only at hSw); simp only [List.getElem_toArray, List.getElem_cons_succ, List.getElem_cons_zero]; all_goals go_simp; all_goals (try with_reducible rfl))); (try simp only [Act.put, List.getElem_toArray, List.getElem_cons_succ, List.getElem_cons_zero, List.setIfInBounds_toArray, List.set_cons_zero, List.set_cons_succ])
    refine wpAnyH_done (by kernel_rfl) ?_ _
    refine NoPanic.normal ?_
    clear hHeld ST
    go_wp2_with fail
    have H14 := Lib.hid (show GS wv w16 L X 4 1 [SB] F2 [1] ∧ w16.rangeAt SB 0 [.int .i64 u0, .int .i64 u1, .int .i64 u2, .int .i64 u3, .int .u32 u4, .int .i64 v0, .int .i64 v1, .int .i64 v2, .int .i64 v3, .int .u32 v4, .int .i64 z0, .int .i64 z1, .int .i64 z2, .int .i64 z3, .int .u32 z4] ∧ w16.rangeAt KD 0 (rowL G1) from ⟨H14.out.1.below HB15.out, range_below H14.out.2.1 HB15.out (H14.out.1.a SB (by simp)).1, range_below H14.out.2.2 HB15.out (cell_lt (rangeD H14.out.2.2 0 (by decide)))⟩)
    clear HB15 HBd
    rw [rounds_succ]
    have ST : Hid (∀ W, Below w16.heap.size w16 W → (World.rangeAt W KD 76 [.int .i64 v0, .int .i64 v1, .int .i64 v2, .int .i64 v3, .int .u32 v4] ∧ World.rangeAt W SB 5 [.int .i64 v0, .int .i64 v1, .int .i64 v2, .int .i64 v3, .int .u32 v4])) := Lib.hid (fun W hW => ⟨range_of5 ((rangeD (range_below H14.out.2.2 hW (cell_lt (rangeD H14.out.2.2 0 (by decide)))) 76 (by decide)).trans (by rw [hG1.out]; rfl)) ((rangeD (range_below H14.out.2.2 hW (cell_lt (rangeD H14.out.2.2 0 (by decide)))) 77 (by decide)).trans (by rw [hG1.out]; rfl)) ((rangeD (range_below H14.out.2.2 hW (cell_lt (rangeD H14.out.2.2 0 (by decide)))) 78 (by decide)).trans (by rw [hG1.out]; rfl)) ((rangeD (range_below H14.out.2.2 hW (cell_lt (rangeD H14.out.2.2 0 (by decide)))) 79 (by decide)).trans (by rw [hG1.out]; rfl)) ((rangeD (range_below H14.out.2.2 hW (cell_lt (rangeD H14.out.2.2 0 (by decide)))) 80 (by decide)).trans (by rw [hG1.out]; rfl)), range_of5 (CallC.cell (range_below H14.out.2.1 hW (H14.out.1.a SB (by simp)).1) 5 _ rfl) (CallC.cell (range_below H14.out.2.1 hW (H14.out.1.a SB (by simp)).1) 6 _ rfl) (CallC.cell (range_below H14.out.2.1 hW (H14.out.1.a SB (by simp)).1) 7 _ rfl) (CallC.cell (range_below H14.out.2.1 hW (H14.out.1.a SB (by simp)).1) 8 _ rfl) (CallC.cell (range_below H14.out.2.1 hW (H14.out.1.a SB (by simp)).1) 9 _ rfl)⟩)
    go_upto_region 23 with fail
    obtain ⟨wD, hwD⟩ : ∃ wD, wD = w16.drew := ⟨_, rfl⟩
    have HBd : Hid (Below w16.heap.size w16 wD) := Lib.hid (by rw [hwD]; exact (Below.refl _ _).drew)
    refine wp_region_noPanic ?_
    refine wp_region_held_drew (S := fun w' => (World.rangeAt w' KD 76 [.int .i64 v0, .int .i64 v1, .int .i64 v2, .int .i64 v3, .int .u32 v4] ∧ World.rangeAt w' SB 5 [.int .i64 v0, .int .i64 v1, .int .i64 v2, .int .i64 v3, .int .u32 v4])) (by kernel_rfl) (by rw [← hwD]; exact ST.out _ HBd.out) (fun hHeld => ?_)
    rw [← hwD] at hHeld ⊢
    clear hwD
    refine wpAnyH_take (i := 0) (v := ?_) (by rfl) (by kernel_rfl) (by kernel_rfl) (by kernel_rfl) (fun _ _ _ h => h) (Or.inl ⟨by kernel_rfl, ?_⟩) (by assumption) ?_; rotate_left 1; (focus (intro w hSw; (try dsimp only at hSw); simp only [List.getElem_toArray, List.getElem_cons_succ, List.getElem_cons_zero]; all_goals go_simp; all_goals (try with_reducible rfl))); (try simp only [Act.put, List.getElem_toArray, List.getElem_cons_succ, List.getElem_cons_zero, List.setIfInBounds_toArray, List.set_cons_zero, List.set_cons_succ])
    refine wpAnyH_take (i := 1) (v := ?_) (by rfl) (by kernel_rfl) (by kernel_rfl) (by kernel_rfl) (fun _ _ _ h => h) (Or.inl ⟨by kernel_rfl, ?_⟩) (by assumption) ?_; rotate_left 1; (focus (intro w hSw; (try dsimp only at hSw); simp only [List.getElem_toArray, List.getElem_cons_succ, List.getElem_cons_zero]; all_goals go_simp; all_goals (try with_reducible rfl))); (try simp only [Act.put, List.getElem_toArray, List.getElem_cons_succ, List.getElem_cons_zero, List.setIfInBounds_toArray, List.set_cons_zero, List.set_cons_succ])
    refine wpAnyH_take (i := 2) (v := ?_) (by rfl) (by kernel_rfl) (by kernel_rfl) (by kernel_rfl) (fun _ _ _ h => h) (Or.inl ⟨by kernel_rfl, ?_⟩) (by assumption) ?_; rotate_left 1; (focus (intro w hSw; (try dsimp only at hSw); simp only [List.getElem_toArray, List.getElem_cons_succ, List.getElem_cons_zero]; all_goals go_simp; all_goals (try with_reducible rfl))); (try simp only [Act.put, List.getElem_toArray, List.getElem_cons_succ, List.getElem_cons_zero, List.setIfInBounds_toArray, List.set_cons_zero, List.set_cons_succ])
    refine wpAnyH_take (i := 3) (v := ?_) (by rfl) (by kernel_rfl) (by kernel_rfl) (by kernel_rfl) (fun _ _ _ h => h) (Or.inl ⟨by kernel_rfl, ?_⟩) (by assumption) ?_; rotate_left 1; (focus (intro w hSw; (try dsimp only at hSw); simp only [List.getElem_toArray, List.getElem_cons_succ, List.getElem_cons_zero]; all_goals go_simp; all_goals (try with_reducible rfl))); (try simp only [Act.put, List.getElem_toArray, List.getElem_cons_succ, List.getElem_cons_zero, List.setIfInBounds_toArray, List.set_cons_zero, List.set_cons_succ])
    refine wpAnyH_take (i := 4) (v := .agg ([.int .i64 v0, .int .i64 v1, .int .i64 v2, .int .i64 v3, .int .u32 v4] : List Value).toArray) (by rfl) (by kernel_rfl) (by kernel_rfl) (by kernel_rfl) (fun _ _ _ h => h) (yieldsIf_load_mid (by kernel_rfl) 31 (.tmp 138) (by rfl) KD 76 (by rfl) [.int .i64 v0, .int .i64 v1, .int .i64 v2, .int .i64 v3, .int .u32 v4] _ (fun w h => h.1) Tryz.underlying31 rfl keyInfo5) (by assumption) ?_
    (try simp only [Act.put, List.getElem_toArray, List.getElem_cons_succ, List.getElem_cons_zero, List.setIfInBounds_toArray, List.set_cons_zero, List.set_cons_succ])
    refine wpAnyH_take (i := 5) (v := ?_) (by rfl) (by kernel_rfl) (by kernel_rfl) (by kernel_rfl) (fun _ _ _ h => h) (Or.inl ⟨by kernel_rfl, ?_⟩) (by assumption) ?_; rotate_left 1; (focus (intro w hSw; (try dsimp only at hSw); simp only [List.getElem_toArray, List.getElem_cons_succ, List.getElem_cons_zero]; all_goals go_simp; all_goals (try with_reducible rfl))); (try simp only [Act.put, List.getElem_toArray, List.getElem_cons_succ, List.getElem_cons_zero, List.setIfInBounds_toArray, List.set_cons_zero, List.set_cons_succ])
    refine wpAnyH_take (i := 6) (v := ?_) (by rfl) (by kernel_rfl) (by kernel_rfl) (by kernel_rfl) (fun _ _ _ h => h) (Or.inl ⟨by kernel_rfl, ?_⟩) (by assumption) ?_; rotate_left 1; (focus (intro w hSw; (try dsimp only at hSw); simp only [List.getElem_toArray, List.getElem_cons_succ, List.getElem_cons_zero]; all_goals go_simp; all_goals (try with_reducible rfl))); (try simp only [Act.put, List.getElem_toArray, List.getElem_cons_succ, List.getElem_cons_zero, List.setIfInBounds_toArray, List.set_cons_zero, List.set_cons_succ])
    refine wpAnyH_take (i := 7) (v := .agg ([.int .i64 v0, .int .i64 v1, .int .i64 v2, .int .i64 v3, .int .u32 v4] : List Value).toArray) (by rfl) (by kernel_rfl) (by kernel_rfl) (by kernel_rfl) (fun _ _ _ h => h) (yieldsIf_load_mid (by kernel_rfl) 31 (.tmp 141) (by rfl) SB 5 (by rfl) [.int .i64 v0, .int .i64 v1, .int .i64 v2, .int .i64 v3, .int .u32 v4] _ (fun w h => h.2) Tryz.underlying31 rfl keyInfo5) (by assumption) ?_
    (try simp only [Act.put, List.getElem_toArray, List.getElem_cons_succ, List.getElem_cons_zero, List.setIfInBounds_toArray, List.set_cons_zero, List.set_cons_succ])
    refine wpAnyH_ready (rs := [8]) (by kernel_rfl) (by simp) ?_; refine AllReadyH.cons (by rfl) (fun K hK => ?_) AllReadyH.nil; rw [if_pos (by kernel_rfl)]; simp only [List.getElem_toArray, List.getElem_cons_succ, List.getElem_cons_zero]
    go_wp2_with (first | (go_at_call 22; (with_reducible refine (HSAM.out _ _ _ _ _ _).mono ?_); rintro e w18 ⟨rfl, hb⟩; have HB15 := Lib.hid (HBd.out.trans (hb.mono HBd.out.size)); clear hb))
    refine hK.out _ _ (ST.out _ HB15.out) (fun hHeld => ?_)
    clear hK K
    (try simp only [Act.put, List.getElem_toArray, List.getElem_cons_succ, List.getElem_cons_zero, List.setIfInBounds_toArray, List.set_cons_zero, List.set_cons_succ])
    refine wpAnyH_take (i := 9) (v := ?_) (by rfl) (by kernel_rfl) (by kernel_rfl) (by kernel_rfl) (fun _ _ _ h => h) (Or.inl ⟨by kernel_rfl, ?_⟩) (by assumption) ?_; rotate_left 1; (focus (intro w hSw; (try dsimp only at hSw); simp only [List.getElem_toArray, List.getElem_cons_succ, List.getElem_cons_zero]; all_goals go_simp; all_goals (try with_reducible rfl))); (try simp only [Act.put, List.getElem_toArray, List.getElem_cons_succ, List.getElem_cons_zero, List.setIfInBounds_toArray, List.set_cons_zero, List.set_cons_succ])
    refine wpAnyH_done (by kernel_rfl) ?_ _
    refine NoPanic.normal ?_
    clear hHeld ST
    go_wp2_with fail
    have H14 := Lib.hid (show GS wv w18 L X 4 1 [SB] F2 [1] ∧ w18.rangeAt SB 0 [.int .i64 u0, .int .i64 u1, .int .i64 u2, .int .i64 u3, .int .u32 u4, .int .i64 v0, .int .i64 v1, .int .i64 v2, .int .i64 v3, .int .u32 v4, .int .i64 z0, .int .i64 z1, .int .i64 z2, .int .i64 z3, .int .u32 z4] ∧ w18.rangeAt KD 0 (rowL G1) from ⟨H14.out.1.below HB15.out, range_below H14.out.2.1 HB15.out (H14.out.1.a SB (by simp)).1, range_below H14.out.2.2 HB15.out (cell_lt (rangeD H14.out.2.2 0 (by decide)))⟩)
    clear HB15 HBd
    rw [rounds_succ]
    have ST : Hid (∀ W, Below w18.heap.size w18 W → (World.rangeAt W KD 81 [.int .i64 z0, .int .i64 z1, .int .i64 z2, .int .i64 z3, .int .u32 z4] ∧ World.rangeAt W SB 10 [.int .i64 z0, .int .i64 z1, .int .i64 z2, .int .i64 z3, .int .u32 z4])) := Lib.hid (fun W hW => ⟨range_of5 ((rangeD (range_below H14.out.2.2 hW (cell_lt (rangeD H14.out.2.2 0 (by decide)))) 81 (by decide)).trans (by rw [hG1.out]; rfl)) ((rangeD (range_below H14.out.2.2 hW (cell_lt (rangeD H14.out.2.2 0 (by decide)))) 82 (by decide)).trans (by rw [hG1.out]; rfl)) ((rangeD (range_below H14.out.2.2 hW (cell_lt (rangeD H14.out.2.2 0 (by decide)))) 83 (by decide)).trans (by rw [hG1.out]; rfl)) ((rangeD (range_below H14.out.2.2 hW (cell_lt (rangeD H14.out.2.2 0 (by decide)))) 84 (by decide)).trans (by rw [hG1.out]; rfl)) ((rangeD (range_below H14.out.2.2 hW (cell_lt (rangeD H14.out.2.2 0 (by decide)))) 85 (by decide)).trans (by rw [hG1.out]; rfl)), range_of5 (CallC.cell (range_below H14.out.2.1 hW (H14.out.1.a SB (by simp)).1) 10 _ rfl) (CallC.cell (range_below H14.out.2.1 hW (H14.out.1.a SB (by simp)).1) 11 _ rfl) (CallC.cell (range_below H14.out.2.1 hW (H14.out.1.a SB (by simp)).1) 12 _ rfl) (CallC.cell (range_below H14.out.2.1 hW (H14.out.1.a SB (by simp)).1) 13 _ rfl) (CallC.cell (range_below H14.out.2.1 hW (H14.out.1.a SB (by simp)).1) 14 _ rfl)⟩)
    go_upto_region 23 with fail
    obtain ⟨wD, hwD⟩ : ∃ wD, wD = w18.drew := ⟨_, rfl⟩
    have HBd : Hid (Below w18.heap.size w18 wD) := Lib.hid (by rw [hwD]; exact (Below.refl _ _).drew)
    refine wp_region_noPanic ?_
    refine wp_region_held_drew (S := fun w' => (World.rangeAt w' KD 81 [.int .i64 z0, .int .i64 z1, .int .i64 z2, .int .i64 z3, .int .u32 z4] ∧ World.rangeAt w' SB 10 [.int .i64 z0, .int .i64 z1, .int .i64 z2, .int .i64 z3, .int .u32 z4])) (by kernel_rfl) (by rw [← hwD]; exact ST.out _ HBd.out) (fun hHeld => ?_)
    rw [← hwD] at hHeld ⊢
    clear hwD
    refine wpAnyH_take (i := 0) (v := ?_) (by rfl) (by kernel_rfl) (by kernel_rfl) (by kernel_rfl) (fun _ _ _ h => h) (Or.inl ⟨by kernel_rfl, ?_⟩) (by assumption) ?_; rotate_left 1; (focus (intro w hSw; (try dsimp only at hSw); simp only [List.getElem_toArray, List.getElem_cons_succ, List.getElem_cons_zero]; all_goals go_simp; all_goals (try with_reducible rfl))); (try simp only [Act.put, List.getElem_toArray, List.getElem_cons_succ, List.getElem_cons_zero, List.setIfInBounds_toArray, List.set_cons_zero, List.set_cons_succ])
    refine wpAnyH_take (i := 1) (v := ?_) (by rfl) (by kernel_rfl) (by kernel_rfl) (by kernel_rfl) (fun _ _ _ h => h) (Or.inl ⟨by kernel_rfl, ?_⟩) (by assumption) ?_; rotate_left 1; (focus (intro w hSw; (try dsimp only at hSw); simp only [List.getElem_toArray, List.getElem_cons_succ, List.getElem_cons_zero]; all_goals go_simp; all_goals (try with_reducible rfl))); (try simp only [Act.put, List.getElem_toArray, List.getElem_cons_succ, List.getElem_cons_zero, List.setIfInBounds_toArray, List.set_cons_zero, List.set_cons_succ])
    refine wpAnyH_take (i := 2) (v := ?_) (by rfl) (by kernel_rfl) (by kernel_rfl) (by kernel_rfl) (fun _ _ _ h => h) (Or.inl ⟨by kernel_rfl, ?_⟩) (by assumption) ?_; rotate_left 1; (focus (intro w hSw; (try dsimp only at hSw); simp only [List.getElem_toArray, List.getElem_cons_succ, List.getElem_cons_zero]; all_goals go_simp; all_goals (try with_reducible rfl))); (try simp only [Act.put, List.getElem_toArray, List.getElem_cons_succ, List.getElem_cons_zero, List.setIfInBounds_toArray, List.set_cons_zero, List.set_cons_succ])
    refine wpAnyH_take (i := 3) (v := ?_) (by rfl) (by kernel_rfl) (by kernel_rfl) (by kernel_rfl) (fun _ _ _ h => h) (Or.inl ⟨by kernel_rfl, ?_⟩) (by assumption) ?_; rotate_left 1; (focus (intro w hSw; (try dsimp only at hSw); simp only [List.getElem_toArray, List.getElem_cons_succ, List.getElem_cons_zero]; all_goals go_simp; all_goals (try with_reducible rfl))); (try simp only [Act.put, List.getElem_toArray, List.getElem_cons_succ, List.getElem_cons_zero, List.setIfInBounds_toArray, List.set_cons_zero, List.set_cons_succ])
    refine wpAnyH_take (i := 4) (v := .agg ([.int .i64 z0, .int .i64 z1, .int .i64 z2, .int .i64 z3, .int .u32 z4] : List Value).toArray) (by rfl) (by kernel_rfl) (by kernel_rfl) (by kernel_rfl) (fun _ _ _ h => h) (yieldsIf_load_mid (by kernel_rfl) 31 (.tmp 138) (by rfl) KD 81 (by rfl) [.int .i64 z0, .int .i64 z1, .int .i64 z2, .int .i64 z3, .int .u32 z4] _ (fun w h => h.1) Tryz.underlying31 rfl keyInfo5) (by assumption) ?_
    (try simp only [Act.put, List.getElem_toArray, List.getElem_cons_succ, List.getElem_cons_zero, List.setIfInBounds_toArray, List.set_cons_zero, List.set_cons_succ])
    refine wpAnyH_take (i := 5) (v := ?_) (by rfl) (by kernel_rfl) (by kernel_rfl) (by kernel_rfl) (fun _ _ _ h => h) (Or.inl ⟨by kernel_rfl, ?_⟩) (by assumption) ?_; rotate_left 1; (focus (intro w hSw; (try dsimp only at hSw); simp only [List.getElem_toArray, List.getElem_cons_succ, List.getElem_cons_zero]; all_goals go_simp; all_goals (try with_reducible rfl))); (try simp only [Act.put, List.getElem_toArray, List.getElem_cons_succ, List.getElem_cons_zero, List.setIfInBounds_toArray, List.set_cons_zero, List.set_cons_succ])
    refine wpAnyH_take (i := 6) (v := ?_) (by rfl) (by kernel_rfl) (by kernel_rfl) (by kernel_rfl) (fun _ _ _ h => h) (Or.inl ⟨by kernel_rfl, ?_⟩) (by assumption) ?_; rotate_left 1; (focus (intro w hSw; (try dsimp only at hSw); simp only [List.getElem_toArray, List.getElem_cons_succ, List.getElem_cons_zero]; all_goals go_simp; all_goals (try with_reducible rfl))); (try simp only [Act.put, List.getElem_toArray, List.getElem_cons_succ, List.getElem_cons_zero, List.setIfInBounds_toArray, List.set_cons_zero, List.set_cons_succ])
    refine wpAnyH_take (i := 7) (v := .agg ([.int .i64 z0, .int .i64 z1, .int .i64 z2, .int .i64 z3, .int .u32 z4] : List Value).toArray) (by rfl) (by kernel_rfl) (by kernel_rfl) (by kernel_rfl) (fun _ _ _ h => h) (yieldsIf_load_mid (by kernel_rfl) 31 (.tmp 141) (by rfl) SB 10 (by rfl) [.int .i64 z0, .int .i64 z1, .int .i64 z2, .int .i64 z3, .int .u32 z4] _ (fun w h => h.2) Tryz.underlying31 rfl keyInfo5) (by assumption) ?_
    (try simp only [Act.put, List.getElem_toArray, List.getElem_cons_succ, List.getElem_cons_zero, List.setIfInBounds_toArray, List.set_cons_zero, List.set_cons_succ])
    refine wpAnyH_ready (rs := [8]) (by kernel_rfl) (by simp) ?_; refine AllReadyH.cons (by rfl) (fun K hK => ?_) AllReadyH.nil; rw [if_pos (by kernel_rfl)]; simp only [List.getElem_toArray, List.getElem_cons_succ, List.getElem_cons_zero]
    go_wp2_with (first | (go_at_call 22; (with_reducible refine (HSAM.out _ _ _ _ _ _).mono ?_); rintro e w20 ⟨rfl, hb⟩; have HB15 := Lib.hid (HBd.out.trans (hb.mono HBd.out.size)); clear hb))
    refine hK.out _ _ (ST.out _ HB15.out) (fun hHeld => ?_)
    clear hK K
    (try simp only [Act.put, List.getElem_toArray, List.getElem_cons_succ, List.getElem_cons_zero, List.setIfInBounds_toArray, List.set_cons_zero, List.set_cons_succ])
    refine wpAnyH_take (i := 9) (v := ?_) (by rfl) (by kernel_rfl) (by kernel_rfl) (by kernel_rfl) (fun _ _ _ h => h) (Or.inl ⟨by kernel_rfl, ?_⟩) (by assumption) ?_; rotate_left 1; (focus (intro w hSw; (try dsimp only at hSw); simp only [List.getElem_toArray, List.getElem_cons_succ, List.getElem_cons_zero]; all_goals go_simp; all_goals (try with_reducible rfl))); (try simp only [Act.put, List.getElem_toArray, List.getElem_cons_succ, List.getElem_cons_zero, List.setIfInBounds_toArray, List.set_cons_zero, List.set_cons_succ])
    refine wpAnyH_done (by kernel_rfl) ?_ _
    refine NoPanic.normal ?_
    clear hHeld ST
    go_wp2_with fail
    have H14 := Lib.hid (show GS wv w20 L X 4 1 [SB] F2 [1] ∧ w20.rangeAt SB 0 [.int .i64 u0, .int .i64 u1, .int .i64 u2, .int .i64 u3, .int .u32 u4, .int .i64 v0, .int .i64 v1, .int .i64 v2, .int .i64 v3, .int .u32 v4, .int .i64 z0, .int .i64 z1, .int .i64 z2, .int .i64 z3, .int .u32 z4] ∧ w20.rangeAt KD 0 (rowL G1) from ⟨H14.out.1.below HB15.out, range_below H14.out.2.1 HB15.out (H14.out.1.a SB (by simp)).1, range_below H14.out.2.2 HB15.out (cell_lt (rangeD H14.out.2.2 0 (by decide)))⟩)
    clear HB15 HBd
    rw [rounds_succ]
    go_upto_region 25 with fail
    have i86 : w20.cell? ⟨KD, 86, none⟩ = some (.int .i64 6) := (rangeD H14.out.2.2 86 (by decide)).trans (by rw [hG1.out]; rfl)
    have i87 : w20.cell? ⟨KD, 87, none⟩ = some (.int .i64 0) := (rangeD H14.out.2.2 87 (by decide)).trans (by rw [hG1.out]; rfl)
    have i88 : w20.cell? ⟨KD, 88, none⟩ = some (.int .i64 0) := (rangeD H14.out.2.2 88 (by decide)).trans (by rw [hG1.out]; rfl)
    have i89 : w20.cell? ⟨KD, 89, none⟩ = some (.int .i64 0) := (rangeD H14.out.2.2 89 (by decide)).trans (by rw [hG1.out]; rfl)
    have i90 : w20.cell? ⟨KD, 90, none⟩ = some (.int .u32 1) := (rangeD H14.out.2.2 90 (by decide)).trans (by rw [hG1.out]; rfl)
    go_upto_region 26 with fail
    clear i86 i87 i88 i89 i90 q12 q13 q14
    generalize hg : World.alloc w20 _ = w21
    obtain ⟨CB, hCB⟩ : ∃ CB, CB = w20.heap.size := ⟨_, rfl⟩
    have H21 := Lib.hid (show GS wv w21 L X 4 1 [CB, SB] F2 [1] ∧ KeyC w21 CB 6 0 0 0 1 by
      rw [← hg, hCB]
      exact ⟨H14.out.1.more ((Below.refl _ _).alloc (Nat.le_refl _) _) _ (Nat.le_refl _) (by simp), KeyC.new w20 6 0 0 0 1 _⟩)
    rw [← hCB]
    clear hg hCB H14 H13
    have hO0 : Hid (∀ j, j < 107 → (F2 0 j).oneCell' = true) := Lib.hid (by rw [hF20.out]; exact fun j _ => RW_one _ _ _ _ _ _ j)
    have HLV := Lib.hid (H21.out.1.live_yes 0 0 (Lib.hid rfl) (by decide) hO0 1 (by rw [hF20.out]; exact ⟨rfl, rfl⟩) (by decide) (by decide))
    have kf0 := H21.out.2.c0
    have kf1 := H21.out.2.c1
    have kf2 := H21.out.2.c2
    have kf3 := H21.out.2.c3
    have kf4 := H21.out.2.c4
    go_upto_region 28 with (first
      | (go_at_call 23; (with_reducible refine HLV.out.mono ?_); rintro e w22 ⟨rfl, hb⟩; have H22 := Lib.hid (And.intro (H21.out.1.below hb) (H21.out.2.below hb)); clear hb kf0 kf1 kf2 kf3 kf4))
    have hFs : RowsF 4 F2 := by
      rw [HF2.out]
      intro i hi
      unfold setF
      split
      · exact ⟨fun j _ => RW_one _ _ _ _ _ _ j, _, _, rfl, rfl⟩
      · split
        · exact ⟨fun j _ => RW_one _ _ _ _ _ _ j, _, _, rfl, rfl⟩
        · exact f1_rows i hi
    have h0 : codeOf q0 q1 q2 q3 q4 = 0 := by have h1 := Eq.out; have h2 := HCq.out; rw [← h2]; simpa using h1
    obtain ⟨d0, d1, d2, d3, d4, hr1, hs1, hs2⟩ := seen_g (w0 := wv) (L := L) (X := X) hFs vs vr HEv.out q0 q1 q2 q3 q4 h0 HGG.out.2.2.2.1.1
    have HRdk := Lib.hid hr1
    have HSdk := Lib.hid hs1
    have HTdk := Lib.hid hs2
    clear h0 hr1 hs1 hs2
    have h0 : codeOf r0 r1 r2 r3 r4 = 0 := by have h1 := Er.out; have h2 := HCr.out; rw [← h2]; simpa using h1
    obtain ⟨f0, f1, f2, f3, f4, hr1, hs1, hs2⟩ := seen_g (w0 := wv) (L := L) (X := X) hFs vs vr HEv.out r0 r1 r2 r3 r4 h0 HGG.out.2.2.2.2.1.1
    have HRfk := Lib.hid hr1
    have HSfk := Lib.hid hs1
    have HTfk := Lib.hid hs2
    clear h0 hr1 hs1 hs2
    have h0 : codeOf s0 s1 s2 s3 s4 = 0 := by have h1 := Es.out; have h2 := HCs.out; rw [← h2]; simpa using h1
    obtain ⟨g0, g1, g2, g3, g4, hr1, hs1, hs2⟩ := seen_g (w0 := wv) (L := L) (X := X) hFs vs vr HEv.out s0 s1 s2 s3 s4 h0 HGG.out.2.2.2.2.2.1
    have HRgk := Lib.hid hr1
    have HSgk := Lib.hid hs1
    have HTgk := Lib.hid hs2
    clear h0 hr1 hs1 hs2
    have HI2 := Lib.hid (gi_resume H22.out.1 0 0 (Lib.hid rfl) (by decide) (fun _ => 0) 0 0 (fun _ _ => 0) 1 hF20 (Lib.hid (fun _ _ => (show rightB 0 0 0 0 0 = true by decide))) (by decide) (by decide) (by decide) (by decide) 1 1 (Lib.hid rfl) (by decide) (by decide) rk 0 0 kk2 0 (Lib.hid (hF21.out.trans hRW.out)) hRk (by decide) (by decide) (by decide) (by decide) vs vr HEv.out (by unfold V.wfI; decide) (by unfold V.wfI; decide) (by decide) (by decide) (by decide) oo aa bb cc q0 q1 q2 q3 q4 r0 r1 r2 r3 r4 s0 s1 s2 s3 s4 d0 d1 d2 d3 d4 f0 f1 f2 f3 f4 g0 g1 g2 g3 g4 HRdk.out HRfk.out HRgk.out HSdk.out HSfk.out HSgk.out HTdk.out HTfk.out HTgk.out)
    have kf0 := H22.out.2.c0
    have kf1 := H22.out.2.c1
    have kf2 := H22.out.2.c2
    have kf3 := H22.out.2.c3
    have kf4 := H22.out.2.c4
    have hmc := (H.out.below H22.out.1.bel).m
    go_upto_region 29 with (first
      | (refine wpList_load_mid (by rfl) _ _ (by rfl) MB 0 (by rfl) [.int .u32 oo, .int .u32 aa, .int .u32 bb, .int .u32 cc, .int .i64 q0, .int .i64 q1, .int .i64 q2, .int .i64 q3, .int .u32 q4, .int .i64 r0, .int .i64 r1, .int .i64 r2, .int .i64 r3, .int .u32 r4, .int .i64 s0, .int .i64 s1, .int .i64 s2, .int .i64 s3, .int .u32 s4] _ hmc Tryz.underlying52 rfl infoNote ?_; clear hmc)
      | (go_at_call 12; (with_reducible refine HI2.out.mono ?_); rintro e w23 ⟨rfl, hg, hk⟩; have H23 := Lib.hid (And.intro hg (H22.out.2.sameg (hk.eq CB (by simp)) hk.sz)); clear hg hk kf0 kf1 kf2 kf3 kf4)
      | (refine wpList_store_mid (by rfl) _ _ _ (by rfl) w23.heap.size 0 ([.int .i64 1, .int .i64 0, .int .u32 0, .int .u32 0, .int .u32 0, .int .u32 0, .int .i64 0, .int .i64 0, .int .i64 0, .int .i64 0, .int .u32 0, .int .i64 0, .int .i64 0, .int .i64 0, .int .i64 0, .int .u32 0, .int .i64 0, .int .i64 0, .int .i64 0, .int .i64 0, .int .u32 0] : List Value).toArray (by rfl) (by rfl) (nthere_new _ _ 21 (by rfl) _) resInfo (by simp [Value.oneCell']) ?_; generalize hg : World.setCells _ w23.heap.size 0 _ = w24))
    obtain ⟨F4, l4, G0, hF4, hl4, hG0⟩ : ∃ (F4 : Nat → Nat → Value) (l4 : List Int) (G0 : Nat → Value), Hid (F4 = setF (setF F2 0 (RW (tRg (fun _ => 0) oo aa bb cc 0) 0 3 0 (tKk (fun _ _ => 0) d0 d1 d2 d3 d4 f0 f1 f2 f3 f4 g0 g1 g2 g3 g4 0 0 0 0 0) 1)) 1 (RW rk 0 1 0 kk2 0)) ∧ Hid (l4 = V.putAll (V.offI [1] 1) [0]) ∧ Hid (G0 = RW (tRg (fun _ => 0) oo aa bb cc 0) 0 3 0 (tKk (fun _ _ => 0) d0 d1 d2 d3 d4 f0 f1 f2 f3 f4 g0 g1 g2 g3 g4 0 0 0 0 0) 1) := ⟨_, _, _, Lib.hid rfl, Lib.hid rfl, Lib.hid rfl⟩
    rw [← hF4.out, ← hl4.out] at H23
    have hF40 : Hid (F4 0 = G0) := Lib.hid (by rw [hF4.out, setF_ne _ _ _ _ (by decide), setF_at, hG0.out])
    have hF41 : Hid (F4 1 = RW rk 0 1 0 kk2 0) := Lib.hid (by rw [hF4.out, setF_at])
    have hF42 : Hid (F4 2 = RW (fun _ => 0) 0 1 0 (fun _ _ => 0) 0) := Lib.hid (by rw [hF4.out, setF_ne _ _ _ _ (by decide), setF_ne _ _ _ _ (by decide), HF2.out]; rfl)
    have hO40 : Hid (∀ j, j < 107 → (F4 0 j).oneCell' = true) := Lib.hid (by rw [hF40.out, hG0.out]; exact fun j _ => RW_one _ _ _ _ _ _ j)
    obtain ⟨RC, hRC⟩ : ∃ RC, RC = w23.heap.size := ⟨_, rfl⟩
    have H24 := Lib.hid (show GS wv w24 L X 4 (1 + 1) [CB, SB] F4 l4 ∧ KeyC w24 CB 6 0 0 0 1 ∧ w24.rangeAt RC 0 ([.int .i64 1, .int .i64 0, .int .u32 0, .int .u32 0, .int .u32 0, .int .u32 0, .int .i64 0, .int .i64 0, .int .i64 0, .int .i64 0, .int .u32 0, .int .i64 0, .int .i64 0, .int .i64 0, .int .i64 0, .int .u32 0, .int .i64 0, .int .i64 0, .int .i64 0, .int .i64 0, .int .u32 0] : List Value) by
      have bb9 := nbelow_cells ((Below.refl _ _).alloc (Nat.le_refl _) _ : Below w23.heap.size w23 (w23.alloc (.cells ([.int .i64 0, .int .i64 0, .int .u32 0, .int .u32 0, .int .u32 0, .int .u32 0, .int .i64 0, .int .i64 0, .int .i64 0, .int .i64 0, .int .u32 0, .int .i64 0, .int .i64 0, .int .i64 0, .int .i64 0, .int .u32 0, .int .i64 0, .int .i64 0, .int .i64 0, .int .i64 0, .int .u32 0] : List Value).toArray 54))) (Nat.le_refl _) ([.int .i64 1, .int .i64 0, .int .u32 0, .int .u32 0, .int .u32 0, .int .u32 0, .int .i64 0, .int .i64 0, .int .i64 0, .int .i64 0, .int .u32 0, .int .i64 0, .int .i64 0, .int .i64 0, .int .i64 0, .int .u32 0, .int .i64 0, .int .i64 0, .int .i64 0, .int .i64 0, .int .u32 0] : List Value) 0
      rw [← hg, hRC]
      exact ⟨H23.out.1.below bb9, H23.out.2.below bb9, World.rangeAt_setCells_same _ _ 0 ([.int .i64 1, .int .i64 0, .int .u32 0, .int .u32 0, .int .u32 0, .int .u32 0, .int .i64 0, .int .i64 0, .int .i64 0, .int .i64 0, .int .u32 0, .int .i64 0, .int .i64 0, .int .i64 0, .int .i64 0, .int .u32 0, .int .i64 0, .int .i64 0, .int .i64 0, .int .i64 0, .int .u32 0] : List Value) (nthere_new _ _ 21 (by rfl) _)⟩)
    rw [← hRC]
    clear hg hRC H23 H22 H21 HI2 HLV
    have HG := Lib.hid (H24.out.1.get 0 0 (Lib.hid rfl) (by decide) hO40)
    have c1 := H24.out.1.c1
    go_upto_region 30 with (first
      | (go_at_call 10; (with_reducible refine HG.out.mono ?_); rintro e w25 ⟨rfl, hb⟩; have HB25 := Lib.hid hb; clear hb)
      | (refine wpList_store_mid (by rfl) _ _ _ (by rfl) w25.heap.size 0 (rowL (F4 0)).toArray (by rfl) (by rfl) (by rw [rowL_size]; exact nthere_new _ _ 107 zsize _) (by rw [rowL_size]; exact infoDomS) (rowL_one (F4 0) hO40.out) ?_))
    generalize hg : World.setCells _ w25.heap.size 0 _ = w26
    obtain ⟨D2, hD2⟩ : ∃ D2, D2 = w25.heap.size := ⟨_, rfl⟩
    have H26 := Lib.hid (show GS wv w26 L X 4 (1 + 1) [CB, SB] F4 l4 ∧ KeyC w26 CB 6 0 0 0 1 ∧ w26.rangeAt RC 0 ([.int .i64 1, .int .i64 0, .int .u32 0, .int .u32 0, .int .u32 0, .int .u32 0, .int .i64 0, .int .i64 0, .int .i64 0, .int .i64 0, .int .u32 0, .int .i64 0, .int .i64 0, .int .i64 0, .int .i64 0, .int .u32 0, .int .i64 0, .int .i64 0, .int .i64 0, .int .i64 0, .int .u32 0] : List Value) ∧ w26.rangeAt D2 0 (rowL G0) by
      have bb9 := nbelow_cells (HB25.out.alloc HB25.out.size (.cells (rowL zd).toArray 34)) HB25.out.size (rowL (F4 0)) 0
      rw [← hg, hD2, ← hF40.out]
      exact ⟨H24.out.1.below bb9, H24.out.2.1.below bb9, range_below H24.out.2.2 bb9 (cell_lt (CallC.cell H24.out.2.2 0 _ rfl)), World.rangeAt_setCells_same _ _ 0 (rowL (F4 0)) (by rw [rowL_len]; exact nthere_new _ _ 107 zsize _)⟩)
    rw [← hD2]
    clear hg hD2 c1 HG H24
    have e0' := CallC.cell H26.out.2.2.1 0 _ rfl
    have e1' := CallC.cell H26.out.2.2.1 1 _ rfl
    have k9 : w26.cell? ⟨D2, 9, none⟩ = some (.int .i64 3) := (rangeD H26.out.2.2.2 9 (by decide)).trans (by rw [hG0.out]; rfl)
    have k0 : w26.cell? ⟨D2, 0, none⟩ = some (.int .u32 oo) := (rangeD H26.out.2.2.2 0 (by decide)).trans (by rw [hG0.out]; rfl)
    have k1 : w26.cell? ⟨D2, 1, none⟩ = some (.int .u32 aa) := (rangeD H26.out.2.2.2 1 (by decide)).trans (by rw [hG0.out]; rfl)
    have k4 : w26.cell? ⟨D2, 4, none⟩ = some (.int .u32 0) := (rangeD H26.out.2.2.2 4 (by decide)).trans (by rw [hG0.out]; rfl)
    have n0' := CallC.cell (H.out.below H26.out.1.bel).m 0 _ rfl
    have n1' := CallC.cell (H.out.below H26.out.1.bel).m 1 _ rfl
    have HST2 := Lib.hid (state_is H26.out.1 1 1 (Lib.hid rfl) (by decide) rk 0 1 0 kk2 0 hF41)
    go_upto_region 32 with (first
      | (go_at_call 16; (with_reducible refine HST2.out.mono ?_); rintro e w27 ⟨rfl, hb⟩; have H27 := Lib.hid (And.intro (H26.out.1.below hb) (H26.out.2.1.below hb)); have HLN := Lib.hid (H27.out.1.live_no 0 0 (Lib.hid rfl) (by decide) hO40 1 3 (by rw [hF40.out, hG0.out]; rfl) (by decide) (by decide) (by decide)); clear hb e0' e1' k9 k0 k1 k4 n0' n1'; have kf0 := H27.out.2.c0; have kf1 := H27.out.2.c1; have kf2 := H27.out.2.c2; have kf3 := H27.out.2.c3; have kf4 := H27.out.2.c4)
      | (go_at_call 23; (with_reducible refine HLN.out.mono ?_); rintro e w28 ⟨rfl, hb⟩; have H28 := Lib.hid (And.intro (H27.out.1.below hb) (H27.out.2.below hb)); clear hb kf0 kf1 kf2 kf3 kf4))
    have HRN := Lib.hid (run_is H28.out.1 2 2 (Lib.hid rfl) (by decide) (fun _ => 0) 0 1 0 (fun _ _ => 0) 0 hF42 (Lib.hid (fun _ _ => (show rightB 0 0 0 0 0 = true by decide))) (by decide) (by decide) (by decide) (by decide) vs vr HEv.out)
    go_upto_region 33 with (first
      | (go_at_call 14; (with_reducible refine HRN.out.mono ?_); rintro e w29 ⟨⟨v9, rfl⟩, hg, hk⟩; have H29 := Lib.hid (And.intro hg (H28.out.2.sameg (hk.eq CB (by simp)) hk.sz)); clear hg hk))
    obtain ⟨F5, hF5⟩ : ∃ F5, Hid (F5 = setF F4 2 (RW (fun _ => 0) 0 3 0 (fun _ _ => 0) 0)) := ⟨_, Lib.hid rfl⟩
    rw [← hF5.out] at H29
    have hF50 : Hid (F5 0 = G0) := Lib.hid (by rw [hF5.out, setF_ne _ _ _ _ (by decide)]; exact hF40.out)
    have hO50 : Hid (∀ j, j < 107 → (F5 0 j).oneCell' = true) := Lib.hid (by rw [hF50.out, hG0.out]; exact fun j _ => RW_one _ _ _ _ _ _ j)
    have hFs5 : RowsF 4 F5 := by
      rw [hF5.out, hF4.out]
      intro i hi
      unfold setF
      split
      · exact ⟨fun j _ => RW_one _ _ _ _ _ _ j, _, _, rfl, rfl⟩
      · split
        · exact ⟨fun j _ => RW_one _ _ _ _ _ _ j, _, _, rfl, rfl⟩
        · split
          · exact ⟨fun j _ => RW_one _ _ _ _ _ _ j, _, _, rfl, rfl⟩
          · exact hFs i hi
    have h0 : codeOf q0 q1 q2 q3 q4 = 0 := by have h1 := Eq.out; have h2 := HCq.out; rw [← h2]; simpa using h1
    obtain ⟨x0, x1, x2, x3, x4, hr1, hs1, hs2⟩ := seen_g (w0 := wv) (L := L) (X := X) hFs5 vs vr HEv.out q0 q1 q2 q3 q4 h0 HGG.out.2.2.2.1.1
    have HRxk := Lib.hid hr1
    have HSxk := Lib.hid hs1
    have HTxk := Lib.hid hs2
    clear h0 hr1 hs1 hs2
    have h0 : codeOf r0 r1 r2 r3 r4 = 0 := by have h1 := Er.out; have h2 := HCr.out; rw [← h2]; simpa using h1
    obtain ⟨y0, y1, y2, y3, y4, hr1, hs1, hs2⟩ := seen_g (w0 := wv) (L := L) (X := X) hFs5 vs vr HEv.out r0 r1 r2 r3 r4 h0 HGG.out.2.2.2.2.1.1
    have HRyk := Lib.hid hr1
    have HSyk := Lib.hid hs1
    have HTyk := Lib.hid hs2
    clear h0 hr1 hs1 hs2
    have h0 : codeOf s0 s1 s2 s3 s4 = 0 := by have h1 := Es.out; have h2 := HCs.out; rw [← h2]; simpa using h1
    obtain ⟨t0, t1, t2, t3, t4, hr1, hs1, hs2⟩ := seen_g (w0 := wv) (L := L) (X := X) hFs5 vs vr HEv.out s0 s1 s2 s3 s4 h0 HGG.out.2.2.2.2.2.1
    have HRtk := Lib.hid hr1
    have HStk := Lib.hid hs1
    have HTtk := Lib.hid hs2
    clear h0 hr1 hs1 hs2
    have HI3 := Lib.hid (gi_over H29.out.1 2 2 (Lib.hid rfl) (by decide) (fun _ => 0) 0 0 (fun _ _ => 0) 0 (Lib.hid (by rw [hF5.out, setF_at])) (Lib.hid (fun _ _ => (show rightB 0 0 0 0 0 = true by decide))) (by decide) (by decide) (by decide) (by decide) vs vr HEv.out (by unfold V.wfI; decide) (by rw [hl4.out]; decide) (by decide) 6 0 0 0 1 (fun W B A l hg => hg.seen_over 0 0 (Lib.hid rfl) (by decide) hO50 1 3 (by rw [hF50.out, hG0.out]; rfl) (by decide) (by decide) (by decide) (by decide) vs vr HEv.out) oo aa bb cc q0 q1 q2 q3 q4 r0 r1 r2 r3 r4 s0 s1 s2 s3 s4 x0 x1 x2 x3 x4 y0 y1 y2 y3 y4 t0 t1 t2 t3 t4 HSxk.out HSyk.out HStk.out HTxk.out HTyk.out HTtk.out)
    have kf0 := H29.out.2.c0
    have kf1 := H29.out.2.c1
    have kf2 := H29.out.2.c2
    have kf3 := H29.out.2.c3
    have kf4 := H29.out.2.c4
    have hmc := (H.out.below H29.out.1.bel).m
    go_upto_region 34 with (first
      | (refine wpList_load_mid (by rfl) _ _ (by rfl) MB 0 (by rfl) [.int .u32 oo, .int .u32 aa, .int .u32 bb, .int .u32 cc, .int .i64 q0, .int .i64 q1, .int .i64 q2, .int .i64 q3, .int .u32 q4, .int .i64 r0, .int .i64 r1, .int .i64 r2, .int .i64 r3, .int .u32 r4, .int .i64 s0, .int .i64 s1, .int .i64 s2, .int .i64 s3, .int .u32 s4] _ hmc Tryz.underlying52 rfl infoNote ?_; clear hmc)
      | (go_at_call 12; (with_reducible refine HI3.out.mono ?_); rintro e w30 ⟨rfl, ⟨B9, l9, hg⟩, hk⟩; have H30 := Lib.hid hg; clear hg hk kf0 kf1 kf2 kf3 kf4)
      | (refine wpList_store_mid (by rfl) _ _ _ (by rfl) w30.heap.size 0 ([.int .i64 0, .int .i64 (-1), .int .u32 1, .int .u32 0, .int .u32 0, .int .u32 0, .int .i64 0, .int .i64 0, .int .i64 0, .int .i64 0, .int .u32 0, .int .i64 0, .int .i64 0, .int .i64 0, .int .i64 0, .int .u32 0, .int .i64 0, .int .i64 0, .int .i64 0, .int .i64 0, .int .u32 0] : List Value).toArray (by rfl) (by rfl) (nthere_new _ _ 21 (by rfl) _) resInfo (by simp [Value.oneCell']) ?_; generalize hg : World.setCells _ w30.heap.size 0 _ = w31))
    obtain ⟨RE, hRE⟩ : ∃ RE, RE = w30.heap.size := ⟨_, rfl⟩
    have H31 := Lib.hid (show GS wv w31 L X 4 B9 [CB, SB] F5 l9 ∧ w31.rangeAt RE 0 ([.int .i64 0, .int .i64 (-1), .int .u32 1, .int .u32 0, .int .u32 0, .int .u32 0, .int .i64 0, .int .i64 0, .int .i64 0, .int .i64 0, .int .u32 0, .int .i64 0, .int .i64 0, .int .i64 0, .int .i64 0, .int .u32 0, .int .i64 0, .int .i64 0, .int .i64 0, .int .i64 0, .int .u32 0] : List Value) by
      have bb9 := nbelow_cells ((Below.refl _ _).alloc (Nat.le_refl _) _ : Below w30.heap.size w30 (w30.alloc (.cells ([.int .i64 0, .int .i64 0, .int .u32 0, .int .u32 0, .int .u32 0, .int .u32 0, .int .i64 0, .int .i64 0, .int .i64 0, .int .i64 0, .int .u32 0, .int .i64 0, .int .i64 0, .int .i64 0, .int .i64 0, .int .u32 0, .int .i64 0, .int .i64 0, .int .i64 0, .int .i64 0, .int .u32 0] : List Value).toArray 54))) (Nat.le_refl _) ([.int .i64 0, .int .i64 (-1), .int .u32 1, .int .u32 0, .int .u32 0, .int .u32 0, .int .i64 0, .int .i64 0, .int .i64 0, .int .i64 0, .int .u32 0, .int .i64 0, .int .i64 0, .int .i64 0, .int .i64 0, .int .u32 0, .int .i64 0, .int .i64 0, .int .i64 0, .int .i64 0, .int .u32 0] : List Value) 0
      rw [← hg, hRE]
      exact ⟨H30.out.below bb9, World.rangeAt_setCells_same _ _ 0 ([.int .i64 0, .int .i64 (-1), .int .u32 1, .int .u32 0, .int .u32 0, .int .u32 0, .int .i64 0, .int .i64 0, .int .i64 0, .int .i64 0, .int .u32 0, .int .i64 0, .int .i64 0, .int .i64 0, .int .i64 0, .int .u32 0, .int .i64 0, .int .i64 0, .int .i64 0, .int .i64 0, .int .u32 0] : List Value) (nthere_new _ _ 21 (by rfl) _)⟩)
    rw [← hRE]
    clear hg hRE
    have e0' := CallC.cell H31.out.2 0 _ rfl
    have e2' := CallC.cell H31.out.2 2 _ rfl
    go_wp2_with fail
    go_ret
    exact ⟨rfl, (H.out.below H31.out.1.bel).bel⟩
end Go.Proofs.YtllcakiomihipaaGreatDoor
namespace Go.Proofs.YtllcakiomihipaaGreatDoor
open Go.ChangeShapes Go.WideShapes Go.ChangeAt Go.RowKit
set_option linter.unusedVariables false
theorem walk_GateCalls (a0 : Array Value) (a1 : Array Value) (a2 : Int) (w : World) (w0 : Reads Tryz.prog w 52 a0.toList) (w1 : Reads Tryz.prog w 52 a1.toList) (w2 : (Lit.int .u32 a2).wf = true) (hL : laidMetH Tryz.prog Rows.gateCallsRow.laid w) :
    Calls Tryz.prog 5 #[.agg a0, .agg a1, .int .u32 a2] w fun e w' => e = .returned (.bool true) ∧ Below w.heap.size w w' := by
  obtain ⟨vs, vr, hE⟩ := (errs2 hL ⟨_, by repeat (first | exact List.Mem.head _ | apply List.Mem.tail)⟩ ⟨_, by repeat (first | exact List.Mem.head _ | apply List.Mem.tail)⟩)
  clear hL
  obtain ⟨o, a, b, c, m0, m1, m2, m3, m4, n0, n1, n2, n3, n4, p0, p1, p2, p3, p4, h0, gm, gn, gp⟩ := note_read w0
  obtain ⟨oo, aa, bb, cc, q0, q1, q2, q3, q4, r0, r1, r2, r3, r4, s0, s1, s2, s3, s4, h1, gq, gr, gs⟩ := note_read w1
  have e0 : a0 = a0.toList.toArray := by simp
  have e1 : a1 = a1.toList.toArray := by simp
  rw [e0, e1, h0, h1]
  exact calls_walk o a b c m0 m1 m2 m3 m4 n0 n1 n2 n3 n4 p0 p1 p2 p3 p4 oo aa bb cc q0 q1 q2 q3 q4 r0 r1 r2 r3 r4 s0 s1 s2 s3 s4 gm gn gp gq gr gs a2 (fit32 w2) w vs vr hE
end Go.Proofs.YtllcakiomihipaaGreatDoor
